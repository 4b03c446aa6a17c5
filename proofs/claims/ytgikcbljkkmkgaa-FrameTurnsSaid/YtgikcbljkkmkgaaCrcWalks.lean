/-
  The walks of layer 2's functions: More, Sum, Put, Seal, Open.
-/
import Derived.Test.YtgikcbljkkmkgaaCrcRef
set_option linter.unusedVariables false
set_option linter.unusedSimpArgs false
set_option maxRecDepth 1000000
namespace Go.Proofs.Ytgikcbljkkmkgaa
open Go.RowKit

theorem bits_byte' {q : Nat} (hq : q < 4294967296) (c : UInt8) : bits .xor .u32 (q : Int) (c.toNat : Int) = ((q ^^^ c.toNat : Nat) : Int) := by
  have := c.toNat_lt
  exact u32_xor_nat q _ hq (by omega)

theorem bits_one {q : Nat} (hq : q < 4294967296) : bits .and .u32 (q : Int) 1 = ((q % 2 : Nat) : Int) := by
  have := u32_and_nat q 1 hq (by decide)
  rw [nat_mask1] at this
  exact this

set_option maxHeartbeats 1000000 in
set_option maxRecDepth 1000000 in
/-- What each byte does to the sum's variable. -/
theorem crc_add (c : UInt8) (g q : Nat) (hq : q < 4294967296) (w : World) (hg : w.heap[g]? = some (.cells #[.int .u32 (q : Int)] 49 (0, 0))) :
    Calls Try.prog 40 #[.int .u8 (c.toNat : Int), .pointer (some ⟨g, 0, none⟩)] w fun e w' => e = .returned (.tuple #[]) ∧
      w'.heap[g]? = some (.cells #[.int .u32 ((Crc.pow 8 (q ^^^ c.toNat) : Nat) : Int)] 49 (0, 0)) ∧ w.grownBy w' (some g) := by
  have hb := bits_byte' hq c
  have hc1 := c.toNat_lt
  have hcell := cell_of_one hg
  have hfree := free_of_one hg
  obtain ⟨p, hp⟩ : ∃ p, p = q ^^^ c.toNat := ⟨_, rfl⟩
  have hpl : p < 4294967296 := by rw [hp]; exact Crc.byte_lt hq _
  rw [← hp] at hb
  rw [← hp]
  have HG := Lib.hid hg
  clear hp hg
  go_enter Try.func40, Try.ntmps40
  go_wp2
  go_loopw [8] (fun i wr => ∃ j r : Nat, j ≤ 8 ∧ i = .int .i64 j ∧ r < 4294967296 ∧ Hid (r = Crc.pow j p) ∧ Hid (wr.heap[g]? = some (.cells #[.int .u32 (r : Int)] 49 (0, 0))) ∧ w.grownBy wr (some g)) (fun i _ => 8 - (intOf i).toNat)
  case atStart => exact ⟨0, p, by omega, rfl, hpl, Lib.hid rfl, Lib.hid (one_setCell HG.out), grown_setCell (World.grownBy.refl _ _) _⟩
  case round =>
    obtain ⟨j, r, hj, rfl, hr, HR, HW, hgr⟩ := hrel
    have hcell := cell_of_one HW.out
    have hfree := free_of_one HW.out
    by_cases hj8 : j < 8
    · have hst := Crc.step_lt hr
      by_cases ho : r % 2 = 1
      · have hbp := bits_poly hr ho
        go_wp2
        go_roundw
        case rel => exact ⟨j + 1, Crc.step r, by omega, by go_num, hst, Lib.hid (by rw [pow_last, ← HR.out]), Lib.hid (one_setCell HW.out), grown_setCell hgr _⟩
        case measure => simp [intOf]; omega
      · have he : Crc.step r = r / 2 := by unfold Crc.step; rw [if_neg ho]
        go_wp2
        go_roundw
        case rel => exact ⟨j + 1, Crc.step r, by omega, by go_num, hst, Lib.hid (by rw [pow_last, ← HR.out]), Lib.hid (by rw [he]; push_cast; exact one_setCell HW.out), grown_setCell hgr _⟩
        case measure => simp [intOf]; omega
    · obtain rfl : j = 8 := by omega
      go_wp2
      go_end0
      exact ⟨rfl, by rw [← HR.out]; exact HW.out, hgr⟩

set_option maxHeartbeats 1000000 in
set_option maxRecDepth 1000000 in
theorem crc_More (s : Nat) (hs : s < 4294967296) (v : Value) (l : List UInt8) (w : World) (h : Rd w v l) :
    Calls Try.prog 38 #[.int .u32 (s : Int), v] w fun e w' => e = .returned (.int .u32 (Crc.more s l : Nat)) ∧ Below w.heap.size w w' := by
  have hmf : ∀ (fn : Fn) (first cap : Array Value) (w : World), (Instr.makeFunc fn first cap).run Try.prog w = .ok (.func fn first cap) w := fun _ _ _ _ => rfl
  have hlen := h.len
  have hidx := h.idx
  have hsm := h.small
  have hx0 : bits .xor .u32 (s : Int) 4294967295 = ((s ^^^ 4294967295 : Nat) : Int) := u32_xor_nat s 4294967295 hs (by decide)
  have hq0 : s ^^^ 4294967295 < 4294967296 := Nat.xor_lt_two_pow (n := 32) hs (by decide)
  obtain ⟨q0, hq⟩ : ∃ q, q = s ^^^ 4294967295 := ⟨_, rfl⟩
  rw [← hq] at hx0 hq0
  have HQ := Lib.hid hq
  clear hq
  go_enter Try.func38, Try.ntmps38
  go_wp2
  go_loopw [14] (fun i wr => ∃ k q : Nat, k ≤ l.length ∧ i = .int .i64 k ∧ q < 4294967296 ∧ Hid (q = Crc.reg q0 (l.take k)) ∧ Hid (wr.heap[w.heap.size]? = some (.cells #[.int .u32 (q : Int)] 49 (0, 0))) ∧ Below w.heap.size w wr) (fun i _ => l.length - (intOf i).toNat)
  case atStart => exact ⟨0, q0, by omega, rfl, hq0, Lib.hid rfl, Lib.hid (heap_alloc_new w _), (Below.refl _ _).alloc (Nat.le_refl _) _⟩
  case round =>
    obtain ⟨k, q, hk, rfl, hq, HK, HW, hbel⟩ := hrel
    by_cases hlt : k < l.length
    · have hcel := (h.later hbel (Nat.le_refl _)).cells k hlt
      unfold at8 at hcel
      obtain ⟨c, hc⟩ : ∃ c, c = l.getD k 0 := ⟨_, rfl⟩
      rw [← hc] at hcel
      have hc1 := c.toNat_lt
      have HC := Lib.hid hc
      clear hc
      go_wp2_with fail
      refine (crc_add c w.heap.size q hq wr HW.out).mono ?_
      rintro e w2 ⟨rfl, hw2, hg2⟩
      have HW2 := Lib.hid hw2
      clear hw2
      go_wp2
      go_roundw
      case rel => exact ⟨k + 1, _, by omega, by go_num, Crc.pow_lt (Crc.byte_lt hq c), Lib.hid (by rw [reg_take_succ hlt, ← HC.out, ← HK.out]), HW2, hbel.grown hg2 hbel.size (by simp)⟩
      case measure => simp [intOf]; omega
    · obtain rfl : k = l.length := by omega
      have hcell := cell_of_one HW.out
      have hx : bits .xor .u32 (q : Int) 4294967295 = ((q ^^^ 4294967295 : Nat) : Int) := u32_xor_nat q 4294967295 hq (by decide)
      go_wp2
      go_ret
      refine ⟨?_, hbel⟩
      have e : Crc.more s l = q ^^^ 4294967295 := by
        rw [HK.out, HQ.out, List.take_length]
        unfold Crc.more
        rw [Nat.xor_comm, Nat.xor_comm Crc.F s]; rfl
      rw [e]
      rfl

theorem crc_Sum (v : Value) (l : List UInt8) (w : World) (h : Rd w v l) :
    Calls Try.prog 29 #[v] w fun e w' => e = .returned (.int .u32 (Crc.sum l : Nat)) ∧ Below w.heap.size w w' := by
  go_enter Try.func29, Try.ntmps29
  go_wp2_with fail
  refine (crc_More 0 (by decide) _ _ _ h).mono ?_
  rintro e w1 ⟨rfl, hb⟩
  go_wp2
  go_ret
  exact ⟨rfl, hb⟩

set_option maxHeartbeats 400000 in
set_option maxRecDepth 1000000 in
theorem crc_Put (m : Nat) (hm : m < 4294967296) (w : World) :
    Calls Try.prog 28 #[.int .u32 (m : Int)] w (RetB w (Crc.put m)) := by
  have hc := put_cells_int m hm
  have HC := Lib.hid hc
  clear hc
  have hx : (m : Int) / 16777216 < 256 := by omega
  go_enter Try.func28, Try.ntmps28
  go_wp2
  go_ret
  refine ⟨_, rfl, ?_, (Below.refl _ _).alloc (Nat.le_refl _) _⟩
  rw [HC.out]
  exact own_lit w _ (Nat.le_refl _) (Crc.put m) (by simp [Crc.put_length, maxLen])

theorem make_bytes_cap (n c : Int) (h0 : 0 ≤ n) (hc : n ≤ c) (h1 : c ≤ 281474976710656) (u : World) : (Instr.makeSlice 22 (.int .i64 n) (.int .i64 c)).run Try.prog u =
    .ok (.slice (some ⟨u.heap.size, 0, none⟩) n.toNat c.toNat) (u.alloc (.cells (cellsB (List.replicate c.toNat 0)).toArray 5)) := by
  obtain ⟨i0, hi, hz0, hz1, hz2⟩ := info_parts info_u8
  have h := run_make (P := Try.prog) u 22 5 i0 (.int .u8 0) Try.underlying22 hi hz0 .i64 .i64 n c h0 hc (by rw [hz2]; omega) (by omega)
  rw [h, hz1]
  congr 3
  simp [madeCells, cellsB, cellB, Value.cells]
  apply Array.ext
  · simp
  · intro i h1 h2
    simp [Nat.mod_one]

theorem bytes_Equal (v1 v2 : Value) (l1 l2 : List UInt8) (w : World) (h1 : Rd w v1 l1) (h2 : Rd w v2 l2) :
    Calls Try.prog 27 #[v1, v2] w fun e w' => e = .returned (.bool (l1 == l2)) ∧ w = w' := by
  have hs1 := h1.str
  have hs2 := h2.str
  go_enter Try.func27, Try.ntmps27
  go_wp2
  go_ret
  exact ⟨rfl, rfl⟩

theorem bytes_Clone (v : Value) (l : List UInt8) (w : World) (h : Rd w v l) (hn : l.length ≤ 140737488351232) :
    Calls Try.prog 32 #[v] w (RetB w l) := by
  obtain ⟨⟨ao, cap, hv, hcap, hnil, hsome⟩, _⟩ := id h
  cases ao with
  | none =>
    obtain rfl : cap = 0 := hnil rfl
    obtain rfl : l = [] := List.eq_nil_of_length_eq_zero (by omega)
    subst hv
    clear hnil hsome hcap
    have hne : ∀ u, (binOp .eql 22 (.slice none 0 0) (.slice none 0 0)).run Try.prog u = .ok (.bool true) u := by
      intro u; rfl
    go_enter Try.func32, Try.ntmps32
    go_wp2
    go_ret
    exact ⟨_, rfl, own_nil _ _, Below.refl _ _⟩
  | some ad =>
    have hne : ∀ u, (binOp .eql 22 v (.slice none 0 0)).run Try.prog u = .ok (.bool false) u := by
      subst hv; intro u; rfl
    have hgd : ∀ x y u, (eqGuard .eql 22 x y v (.slice none 0 0)).run Try.prog u = .ok () u := by
      subst hv; intro x y u; rfl
    clear hv
    go_enter Try.func32, Try.ntmps32
    go_wp2_with (with_reducible refine wpl_append w.heap.size _ [] ?hs (own_empty w w.heap.size (Nat.le_refl _)) _ l ?hx (h.alloc _) ?hn ?hbase w.heap.size w ((Below.refl _ _).alloc (Nat.le_refl _) _) (Nat.le_refl _) ?_)
    case hs => rfl
    case hx => rfl
    case hn => simp; omega
    case hbase => simp
    intro v1 w1 ho1 hb1 _
    go_wp2
    go_ret
    exact ⟨_, rfl, ho1, hb1⟩

theorem make_copy {w' : World} {g : Nat} {l : List UInt8} (hg : Hid (w'.heap[g]? = some (.cells (cellsB (splice (List.replicate (l.length + 4) 0) 0 l)).toArray 5 (0, 0)))) {base : Nat} (hb : base ≤ g) (hs : l.length ≤ 140737488351232) : Own w' base (.slice (some ⟨g, 0, none⟩) l.length (l.length + 4)) l := by
  refine own_of_block hb hg.out rfl (by omega) (by unfold maxLen; omega) ?_ ?_
  · simp [cellsB_length, splice]
  · unfold cellsB
    rw [← List.map_take]
    congr 1
    simp [splice]

set_option maxHeartbeats 1000000 in
set_option maxRecDepth 1000000 in
theorem crc_Seal (v : Value) (l : List UInt8) (w : World) (h : Rd w v l) :
    Calls Try.prog 19 #[v] w (RetB w (l ++ Crc.put (Crc.sum l))) := by
  have hlen := h.len
  have hl := h.small
  have hsum := Crc.sum_lt l
  have hmk := make_bytes_cap (l.length : Int) ((l.length : Int) + 4) (by omega) (by omega) (by omega)
  rw [show ((l.length : Int) + 4).toNat = l.length + 4 from by omega, show (l.length : Int).toNat = l.length from by omega] at hmk
  go_enter Try.func19, Try.ntmps19
  have h1 := h.alloc (.cells (cellsB (List.replicate (l.length + 4) 0)).toArray 5)
  have hbel := (Below.refl w.heap.size w).alloc (Nat.le_refl _) (.cells (cellsB (List.replicate (l.length + 4) 0)).toArray 5)
  have hg := Lib.hid (heap_alloc_new w (.cells (cellsB (List.replicate (l.length + 4) 0)).toArray 5))
  go_wp2_with ((with_reducible refine wpl_copy (some ⟨w.heap.size, 0, none⟩) l.length (l.length + 4) ?hd v l ?hs h1 ?hn w.heap.size 0 (List.replicate (l.length + 4) 0) hg.out ?hdp ?hfit w.heap.size w hbel (Nat.le_refl _) ?_))
  case hd => rfl
  case hs => rfl
  case hn => exact Nat.le_refl _
  case hfit => simp
  intro w1 HW1 hb1
  have ho1 := make_copy HW1 (Nat.le_refl w.heap.size) hl
  clear HW1 h1 hg hbel
  obtain ⟨v1, hv1⟩ : ∃ v1, v1 = (Value.slice (some ⟨w.heap.size, 0, none⟩) l.length (l.length + 4)) := ⟨_, rfl⟩
  rw [← hv1] at ho1
  go_wp2_with fail
  refine (crc_Sum _ _ _ (h.later hb1 (Nat.le_refl _))).mono ?_
  rintro e w0 ⟨rfl, hb0⟩
  replace hb1 := hb1.trans (hb0.mono hb1.size)
  replace ho1 := ho1.later hb0 (Nat.le_refl _)
  clear hb0
  go_wp2_with fail
  refine (crc_Put _ hsum _).mono ?_
  rintro e w2 ⟨v2, rfl, ho2, hb2⟩
  have hb3 := hb1.trans (hb2.mono hb1.size)
  have ho3 := ho1.later hb2 (Nat.le_refl _)
  have hr2 := ho2.rd (by simp [Crc.put_length])
  go_wp2_with (with_reducible refine wpl_append w.heap.size _ l ?hs ho3 _ (Crc.put (Crc.sum l)) ?hx hr2 ?hn ?hbase w.heap.size w hb3 (Nat.le_refl _) ?_)
  case hs => rw [hv1]; rfl
  case hx => rfl
  case hn => simp [Crc.put_length]; omega
  case hbase => exact hb3.size
  intro v4 w4 ho4 hb4 _
  go_wp2
  go_ret
  exact ⟨_, rfl, ho4, hb4⟩

set_option maxHeartbeats 2000000 in
set_option maxRecDepth 1000000 in
theorem crc_Open (v : Value) (l : List UInt8) (w : World) (h : Rd w v l) :
    Calls Try.prog 18 #[v] w (RetO w (openA l)) := by
  have hlen := h.len
  have hsm := h.small
  by_cases h4 : l.length < 4
  · have hf : decide ((l.length : Int) - 4 < 0) = true := decide_eq_true (by omega)
    have ho : openA l = ([], false) := by unfold openA; rw [if_neg (fun hg => by have := hg.1; omega)]
    go_enter Try.func18, Try.ntmps18
    go_wp2_with fail
    refine Ord.wp_region_ord [(0, false), (1, false), (2, false), (3, false), (4, false), (5, false), (6, false), (7, false), (8, false), (9, true), (10, true), (11, true), (12, false), (13, false)] (by kernel_rfl) rfl (by kernel_rfl) (by kernel_rfl) (fun _ _ _ d _ h => by cases d <;> exact h) ?_
    refine Ord.ord_still rfl rfl (by kernel_rfl) (fun K hK => ?_)
    go_big_quiet_op
    refine hK _ ?_; clear hK K
    refine Ord.ord_still rfl rfl (by kernel_rfl) (fun K hK => ?_)
    go_big_quiet_op
    refine hK _ ?_; clear hK K
    refine Ord.ord_still rfl rfl (by kernel_rfl) (fun K hK => ?_)
    go_big_quiet_op
    refine hK _ ?_; clear hK K
    refine Ord.ord_skip rfl (by kernel_rfl) (fun K hK => ?_)
    go_big_quiet_op
    refine hK _ ?_; clear hK K
    refine Ord.ord_skip rfl (by kernel_rfl) (fun K hK => ?_)
    go_big_quiet_op
    refine hK _ ?_; clear hK K
    refine Ord.ord_skip rfl (by kernel_rfl) (fun K hK => ?_)
    go_big_quiet_op
    refine hK _ ?_; clear hK K
    refine Ord.ord_skip rfl (by kernel_rfl) (fun K hK => ?_)
    go_big_quiet_op
    refine hK _ ?_; clear hK K
    refine Ord.ord_skip rfl (by kernel_rfl) (fun K hK => ?_)
    go_big_quiet_op
    refine hK _ ?_; clear hK K
    refine Ord.ord_skip rfl (by kernel_rfl) (fun K hK => ?_)
    go_big_quiet_op
    refine hK _ ?_; clear hK K
    refine Ord.ord_skip rfl (by kernel_rfl) (fun K hK => ?_)
    go_big_quiet_op
    refine hK _ ?_; clear hK K
    refine Ord.ord_skip rfl (by kernel_rfl) (fun K hK => ?_)
    go_big_quiet_op
    refine hK _ ?_; clear hK K
    refine Ord.ord_skip rfl (by kernel_rfl) (fun K hK => ?_)
    go_big_quiet_op
    refine hK _ ?_; clear hK K
    refine Ord.ord_skip rfl (by kernel_rfl) (fun K hK => ?_)
    go_big_quiet_op
    refine hK _ ?_; clear hK K
    refine Ord.ord_still rfl rfl (by kernel_rfl) (fun K hK => ?_)
    go_big_quiet_op
    refine hK _ ?_; clear hK K
    refine Ord.ord_nil ?_
    go_wp2
    go_ret2
    rw [ho]
    exact ⟨_, rfl, own_nil _ _, (Below.refl _ _).drew⟩
  · obtain ⟨n, hn⟩ : ∃ n, l.length = n + 4 := ⟨l.length - 4, by omega⟩
    have hf : decide ((n : Int) < 0) = false := decide_eq_false (by omega)
    have hsum := Crc.sum_lt (l.take n)
    obtain ⟨va, hsl1, hrd1⟩ := h.upto n (by omega)
    obtain ⟨vb, hsl2, hrd2⟩ := h.from n (by omega)
    have hbel : Below w.heap.size w w.drew := (Below.refl _ _).drew
    rw [show (l.length : Int) = (n : Int) + 4 from by omega] at hlen
    have hnb : n ≤ 140737488351232 := by omega
    have HN := Lib.hid hn
    clear hn
    have hgood : Crc.good l ↔ l.drop n = Crc.put (Crc.sum (l.take n)) := by
      have hn := HN.out
      unfold Crc.good
      rw [hn, Nat.add_sub_cancel]
      exact ⟨fun hh => hh.2.symm, fun hh => ⟨by omega, hh.symm⟩⟩
    have HG := Lib.hid hgood
    clear hgood
    by_cases hq : l.drop n = Crc.put (Crc.sum (l.take n))
    · have ho : openA l = (l.take n, true) := by unfold openA; rw [if_pos (HG.out.2 hq), HN.out, Nat.add_sub_cancel]
      have HO := Lib.hid ho
      have hf2 : (l.drop n == Crc.put (Crc.sum (l.take n))) = true := beq_iff_eq.2 hq
      clear ho hq
      go_enter Try.func18, Try.ntmps18
      go_wp2_with fail
      refine Ord.wp_region_ord [(0, false), (1, false), (2, false), (3, false), (4, false), (5, false), (6, false), (7, false), (8, false), (9, true), (10, true), (11, true), (12, false), (13, false)] (by kernel_rfl) rfl (by kernel_rfl) (by kernel_rfl) (fun _ _ _ d _ h => by cases d <;> exact h) ?_
      refine Ord.ord_still rfl rfl (by kernel_rfl) (fun K hK => ?_)
      go_big_quiet_op
      refine hK _ ?_; clear hK K
      refine Ord.ord_still rfl rfl (by kernel_rfl) (fun K hK => ?_)
      go_big_quiet_op
      refine hK _ ?_; clear hK K
      refine Ord.ord_still rfl rfl (by kernel_rfl) (fun K hK => ?_)
      go_big_quiet_op
      refine hK _ ?_; clear hK K
      refine Ord.ord_still rfl rfl (by kernel_rfl) (fun K hK => ?_)
      go_big_quiet_op
      refine hK _ ?_; clear hK K
      refine Ord.ord_still rfl rfl (by kernel_rfl) (fun K hK => ?_)
      go_big_quiet_op
      refine hK _ ?_; clear hK K
      refine Ord.ord_still rfl rfl (by kernel_rfl) (fun K hK => ?_)
      go_big_quiet_op
      refine hK _ ?_; clear hK K
      refine Ord.ord_still rfl rfl (by kernel_rfl) (fun K hK => ?_)
      go_big_quiet_op
      refine hK _ ?_; clear hK K
      refine Ord.ord_still rfl rfl (by kernel_rfl) (fun K hK => ?_)
      go_big_quiet_op
      refine hK _ ?_; clear hK K
      refine Ord.ord_still rfl rfl (by kernel_rfl) (fun K hK => ?_)
      go_big_quiet_op
      refine hK _ ?_; clear hK K
      refine Ord.ord_loud rfl (by kernel_rfl) (fun K hK => ?_)
      go_big_op
      refine (crc_Sum _ _ _ (hrd1 _ (h.later hbel (Nat.le_refl _)))).mono ?_
      rintro e w0 ⟨rfl, hb0⟩
      replace hbel := hbel.trans (hb0.mono hbel.size)
      refine hK _ _ hb0 ?_
      clear hb0
      clear hK K
      refine Ord.ord_loud rfl (by kernel_rfl) (fun K hK => ?_)
      go_big_op
      refine (crc_Put _ hsum _).mono ?_
      rintro e w1 ⟨v1, rfl, ho1, hb1⟩
      have hr1 := ho1.rd (by simp [Crc.put_length])
      replace hbel := hbel.trans (hb1.mono hbel.size)
      clear ho1
      refine hK _ _ hb1 ?_
      clear hb1
      clear hK K
      refine Ord.ord_loud rfl (by kernel_rfl) (fun K hK => ?_)
      go_big_op
      refine (bytes_Equal _ _ _ _ _ (hrd2 _ (h.later hbel (Nat.le_refl _))) hr1).mono ?_
      rintro e w2 ⟨rfl, rfl⟩
      refine hK _ _ (Ord.Grew.refl _) ?_
      clear hK K
      refine Ord.ord_still rfl rfl (by kernel_rfl) (fun K hK => ?_)
      go_big_quiet_op
      refine hK _ ?_; clear hK K
      refine Ord.ord_still rfl rfl (by kernel_rfl) (fun K hK => ?_)
      go_big_quiet_op
      refine hK _ ?_; clear hK K
      refine Ord.ord_nil ?_
      go_wp2_with fail
      refine (bytes_Clone _ _ _ (hrd1 _ (h.later hbel (Nat.le_refl _))) (by simp; omega)).mono ?_
      rintro e w4 ⟨v4, rfl, ho4, hb4⟩
      go_wp2
      go_ret2
      rw [HO.out]
      exact ⟨_, rfl, ho4.base hbel.size, hbel.trans (hb4.mono hbel.size)⟩
    · have ho : openA l = ([], false) := by unfold openA; rw [if_neg (fun hg => hq (HG.out.1 hg))]
      have HO := Lib.hid ho
      have hf2 : (l.drop n == Crc.put (Crc.sum (l.take n))) = false := by
        rw [Bool.eq_false_iff]; exact fun hh => hq (beq_iff_eq.1 hh)
      clear ho hq
      go_enter Try.func18, Try.ntmps18
      go_wp2_with fail
      refine Ord.wp_region_ord [(0, false), (1, false), (2, false), (3, false), (4, false), (5, false), (6, false), (7, false), (8, false), (9, true), (10, true), (11, true), (12, false), (13, false)] (by kernel_rfl) rfl (by kernel_rfl) (by kernel_rfl) (fun _ _ _ d _ h => by cases d <;> exact h) ?_
      refine Ord.ord_still rfl rfl (by kernel_rfl) (fun K hK => ?_)
      go_big_quiet_op
      refine hK _ ?_; clear hK K
      refine Ord.ord_still rfl rfl (by kernel_rfl) (fun K hK => ?_)
      go_big_quiet_op
      refine hK _ ?_; clear hK K
      refine Ord.ord_still rfl rfl (by kernel_rfl) (fun K hK => ?_)
      go_big_quiet_op
      refine hK _ ?_; clear hK K
      refine Ord.ord_still rfl rfl (by kernel_rfl) (fun K hK => ?_)
      go_big_quiet_op
      refine hK _ ?_; clear hK K
      refine Ord.ord_still rfl rfl (by kernel_rfl) (fun K hK => ?_)
      go_big_quiet_op
      refine hK _ ?_; clear hK K
      refine Ord.ord_still rfl rfl (by kernel_rfl) (fun K hK => ?_)
      go_big_quiet_op
      refine hK _ ?_; clear hK K
      refine Ord.ord_still rfl rfl (by kernel_rfl) (fun K hK => ?_)
      go_big_quiet_op
      refine hK _ ?_; clear hK K
      refine Ord.ord_still rfl rfl (by kernel_rfl) (fun K hK => ?_)
      go_big_quiet_op
      refine hK _ ?_; clear hK K
      refine Ord.ord_still rfl rfl (by kernel_rfl) (fun K hK => ?_)
      go_big_quiet_op
      refine hK _ ?_; clear hK K
      refine Ord.ord_loud rfl (by kernel_rfl) (fun K hK => ?_)
      go_big_op
      refine (crc_Sum _ _ _ (hrd1 _ (h.later hbel (Nat.le_refl _)))).mono ?_
      rintro e w0 ⟨rfl, hb0⟩
      replace hbel := hbel.trans (hb0.mono hbel.size)
      refine hK _ _ hb0 ?_
      clear hb0
      clear hK K
      refine Ord.ord_loud rfl (by kernel_rfl) (fun K hK => ?_)
      go_big_op
      refine (crc_Put _ hsum _).mono ?_
      rintro e w1 ⟨v1, rfl, ho1, hb1⟩
      have hr1 := ho1.rd (by simp [Crc.put_length])
      replace hbel := hbel.trans (hb1.mono hbel.size)
      clear ho1
      refine hK _ _ hb1 ?_
      clear hb1
      clear hK K
      refine Ord.ord_loud rfl (by kernel_rfl) (fun K hK => ?_)
      go_big_op
      refine (bytes_Equal _ _ _ _ _ (hrd2 _ (h.later hbel (Nat.le_refl _))) hr1).mono ?_
      rintro e w2 ⟨rfl, rfl⟩
      refine hK _ _ (Ord.Grew.refl _) ?_
      clear hK K
      refine Ord.ord_still rfl rfl (by kernel_rfl) (fun K hK => ?_)
      go_big_quiet_op
      refine hK _ ?_; clear hK K
      refine Ord.ord_still rfl rfl (by kernel_rfl) (fun K hK => ?_)
      go_big_quiet_op
      refine hK _ ?_; clear hK K
      refine Ord.ord_nil ?_
      go_wp2
      go_ret2
      rw [HO.out]
      exact ⟨_, rfl, own_nil _ _, hbel⟩

theorem crc_digits : Crc.sum [49, 50, 51, 52, 53, 54, 55, 56, 57] = 3808858755 := by decide +kernel

end Go.Proofs.Ytgikcbljkkmkgaa
