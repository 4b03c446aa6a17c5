/-
  CrcPuts: a sum's bytes are four, the lowest one first; two sums have the same just if they are the same. For every input.
-/
import Derived.Test.YtagpcplmcagihaaCrcWalks
set_option linter.unusedVariables false
set_option linter.unusedSimpArgs false
namespace Go.Proofs.Ytagpcplmcagihaa
open Go.RowKit

theorem at_put (m : Nat) : at8 (Crc.put m) 0 = (m % 256 : Nat) ∧ at8 (Crc.put m) 1 = (m / 256 % 256 : Nat) ∧ at8 (Crc.put m) 2 = (m / 65536 % 256 : Nat) ∧ at8 (Crc.put m) 3 = (m / 16777216 % 256 : Nat) := by
  have t : ∀ n, n < 256 → (UInt8.ofNat n).toNat = n := fun n hn => by rw [UInt8.toNat_ofNat']; omega
  unfold at8 Crc.put
  simp only [List.getD_cons_zero, List.getD_cons_succ]
  refine ⟨?_, ?_, ?_, ?_⟩ <;> rw [t _ (by omega)]

theorem put_bits (m : Nat) (hm : m < 4294967296) : bits .or .u32 (bits .or .u32 (bits .or .u32 ((m : Int) % 256) ((m : Int) / 256 % 256 * 256)) ((m : Int) / 65536 % 256 * 65536)) ((m : Int) / 16777216 % 256 * 16777216) = (m : Int) := by
  have j1 : (m % 256) ||| (m / 256 % 256 * 256) = m % 65536 := by
    rw [Nat.or_comm, nat_join 8 _ _ (by omega) (by omega)]; omega
  have j2 : (m % 65536) ||| (m / 65536 % 256 * 65536) = m % 16777216 := by
    rw [Nat.or_comm, nat_join 16 _ _ (by omega) (by omega)]; omega
  have j3 : (m % 16777216) ||| (m / 16777216 % 256 * 16777216) = m := by
    rw [Nat.or_comm, nat_join 24 _ _ (by omega) (by omega)]; omega
  have e1 := u32_or_nat (m % 256) (m / 256 % 256 * 256) (by omega) (by omega)
  have e2 := u32_or_nat (m % 65536) (m / 65536 % 256 * 65536) (by omega) (by omega)
  have e3 := u32_or_nat (m % 16777216) (m / 16777216 % 256 * 16777216) (by omega) (by omega)
  rw [j1] at e1
  rw [j2] at e2
  rw [j3] at e3
  rw [show ((m : Int) % 256) = ((m % 256 : Nat) : Int) from by omega, show ((m : Int) / 256 % 256 * 256) = ((m / 256 % 256 * 256 : Nat) : Int) from by omega,
    show ((m : Int) / 65536 % 256 * 65536) = ((m / 65536 % 256 * 65536 : Nat) : Int) from by omega, show ((m : Int) / 16777216 % 256 * 16777216) = ((m / 16777216 % 256 * 16777216 : Nat) : Int) from by omega, e1, e2, e3]

set_option maxHeartbeats 4000000 in
set_option maxRecDepth 20000 in
theorem crcPuts_walk (a b : Int) (w : World) (ha : 0 ≤ a ∧ a ≤ 4294967295) (hb : 0 ≤ b ∧ b ≤ 4294967295) :
    Calls Try.prog 8 #[.int .u32 a, .int .u32 b] w fun e w' => e = .returned (.bool true) ∧ Below w.heap.size w w' := by
  obtain ⟨m, rfl⟩ := Int.eq_ofNat_of_zero_le ha.1
  obtain ⟨n, rfl⟩ := Int.eq_ofNat_of_zero_le hb.1
  have hm : m < 4294967296 := by omega
  have hn : n < 4294967296 := by omega
  clear ha hb
  go_enter Try.func8, Try.ntmps8
  go_wp2_with fail
  refine (crc_Put m hm w).mono ?_
  rintro e w1 ⟨v1, rfl, ho1, hb1⟩
  go_wp2_with fail
  refine (crc_Put n hn w1).mono ?_
  rintro e w2 ⟨v2, rfl, ho2, hb2⟩
  replace ho1 := ho1.later hb2 (Nat.le_refl _)
  replace hb2 := hb1.trans (hb2.mono hb1.size)
  have hr1 := ho1.rd (by simp [Crc.put_length])
  have hr2 := ho2.rd (by simp [Crc.put_length])
  have hl1 : ∀ u, (Builtin.len_ #[22] 3 #[v1]).run Try.prog u = .ok (.int .i64 4) u := hr1.len
  have hl2 : ∀ u, (Builtin.len_ #[22] 3 #[v2]).run Try.prog u = .ok (.int .i64 4) u := hr2.len
  obtain ⟨e0, e1, e2, e3⟩ := at_put m
  have pl : (Crc.put m).length = 4 := rfl
  have hi0 : ∀ u, (Instr.indexAt 22 v1 (.int .i64 0)).run Try.prog u = .ok (.pointer (some (adr v1 0))) u := hr1.idx 0 (by omega)
  have hc0 : ∀ x : Ord.GW w2.drew, x.val.cell? (adr v1 0) = _ := fun x => (hr1.drew.grew x.grew).cells 0 (by omega)
  rw [e0] at hc0
  have hi1 : ∀ u, (Instr.indexAt 22 v1 (.int .i64 1)).run Try.prog u = .ok (.pointer (some (adr v1 1))) u := hr1.idx 1 (by omega)
  have hc1 : ∀ x : Ord.GW w2.drew, x.val.cell? (adr v1 1) = _ := fun x => (hr1.drew.grew x.grew).cells 1 (by omega)
  rw [e1] at hc1
  have hi2 : ∀ u, (Instr.indexAt 22 v1 (.int .i64 2)).run Try.prog u = .ok (.pointer (some (adr v1 2))) u := hr1.idx 2 (by omega)
  have hc2 : ∀ x : Ord.GW w2.drew, x.val.cell? (adr v1 2) = _ := fun x => (hr1.drew.grew x.grew).cells 2 (by omega)
  rw [e2] at hc2
  have hi3 : ∀ u, (Instr.indexAt 22 v1 (.int .i64 3)).run Try.prog u = .ok (.pointer (some (adr v1 3))) u := hr1.idx 3 (by omega)
  have hc3 : ∀ x : Ord.GW w2.drew, x.val.cell? (adr v1 3) = _ := fun x => (hr1.drew.grew x.grew).cells 3 (by omega)
  rw [e3] at hc3
  have hbits := put_bits m hm
  rw [show (((m % 256 : Nat) : Int)) = (m : Int) % 256 from by omega] at hc0
  rw [show (((m / 256 % 256 : Nat) : Int)) = (m : Int) / 256 % 256 from by omega] at hc1
  rw [show (((m / 65536 % 256 : Nat) : Int)) = (m : Int) / 65536 % 256 from by omega] at hc2
  rw [show (((m / 16777216 % 256 : Nat) : Int)) = (m : Int) / 16777216 % 256 from by omega] at hc3
  clear e0 e1 e2 e3 ho1 ho2 pl
  go_wp2_with fail
  refine Ord.wp_region_ord [(0, false), (1, false), (2, false), (3, false), (4, false), (5, false), (6, false), (7, false), (8, false), (9, false), (10, false), (11, false), (12, false), (13, false), (14, false), (15, false), (16, false), (17, false), (18, false), (19, false), (20, false), (21, false), (22, false)] (by kernel_rfl) rfl (by kernel_rfl) (by kernel_rfl) (fun _ _ _ d _ h => by cases d <;> exact h) ?_
  refine Ord.ord_still rfl rfl (by kernel_rfl) (fun K hK => ?_)
  go_big_quiet_op
  refine hK _ ?_; clear hK K
  refine Ord.ord_still rfl rfl (by kernel_rfl) (fun K hK => ?_)
  go_big_quiet_op
  refine hK _ ?_; clear hK K
  refine Ord.ord_still rfl rfl (by kernel_rfl) (fun K hK => ?_)
  go_big_quiet_op
  refine hK _ ?_; clear hK K
  refine Ord.ord_still rfl rfl (by kernel_rfl) (fun K hK => ?_)
  go_big_quiet_op
  refine hK _ ?_; clear hK K
  refine Ord.ord_still rfl rfl (by kernel_rfl) (fun K hK => ?_)
  go_big_quiet_op
  refine hK _ ?_; clear hK K
  refine Ord.ord_still rfl rfl (by kernel_rfl) (fun K hK => ?_)
  go_big_quiet_op
  refine hK _ ?_; clear hK K
  refine Ord.ord_still rfl rfl (by kernel_rfl) (fun K hK => ?_)
  go_big_quiet_op
  refine hK _ ?_; clear hK K
  refine Ord.ord_still rfl rfl (by kernel_rfl) (fun K hK => ?_)
  go_big_quiet_op
  refine hK _ ?_; clear hK K
  refine Ord.ord_still rfl rfl (by kernel_rfl) (fun K hK => ?_)
  go_big_quiet_op
  refine hK _ ?_; clear hK K
  refine Ord.ord_still rfl rfl (by kernel_rfl) (fun K hK => ?_)
  go_big_quiet_op
  refine hK _ ?_; clear hK K
  refine Ord.ord_still rfl rfl (by kernel_rfl) (fun K hK => ?_)
  go_big_quiet_op
  refine hK _ ?_; clear hK K
  refine Ord.ord_still rfl rfl (by kernel_rfl) (fun K hK => ?_)
  go_big_quiet_op
  refine hK _ ?_; clear hK K
  refine Ord.ord_still rfl rfl (by kernel_rfl) (fun K hK => ?_)
  go_big_quiet_op
  refine hK _ ?_; clear hK K
  refine Ord.ord_still rfl rfl (by kernel_rfl) (fun K hK => ?_)
  go_big_quiet_op
  refine hK _ ?_; clear hK K
  refine Ord.ord_still rfl rfl (by kernel_rfl) (fun K hK => ?_)
  go_big_quiet_op
  refine hK _ ?_; clear hK K
  refine Ord.ord_still rfl rfl (by kernel_rfl) (fun K hK => ?_)
  go_big_quiet_op
  refine hK _ ?_; clear hK K
  refine Ord.ord_still rfl rfl (by kernel_rfl) (fun K hK => ?_)
  go_big_quiet_op
  refine hK _ ?_; clear hK K
  refine Ord.ord_still rfl rfl (by kernel_rfl) (fun K hK => ?_)
  go_big_quiet_op
  refine hK _ ?_; clear hK K
  refine Ord.ord_still rfl rfl (by kernel_rfl) (fun K hK => ?_)
  go_big_quiet_op
  refine hK _ ?_; clear hK K
  refine Ord.ord_still rfl rfl (by kernel_rfl) (fun K hK => ?_)
  go_big_quiet_op
  refine hK _ ?_; clear hK K
  refine Ord.ord_still rfl rfl (by kernel_rfl) (fun K hK => ?_)
  go_big_quiet_op
  refine hK _ ?_; clear hK K
  refine Ord.ord_still rfl rfl (by kernel_rfl) (fun K hK => ?_)
  go_big_quiet_op
  refine hK _ ?_; clear hK K
  refine Ord.ord_still rfl rfl (by kernel_rfl) (fun K hK => ?_)
  go_big_quiet_op
  refine hK _ ?_; clear hK K
  refine Ord.ord_nil ?_
  clear hi0 hi1 hi2 hi3 hc0 hc1 hc2 hc3
  go_wp2_with fail
  refine (law02_alive _).mono ?_
  rintro e w3 ⟨rfl, hb3⟩
  have hgr : Below w2.heap.size w2 w3 := Below.trans ((Below.refl _ _).drew) hb3
  have hb4 : Below w.heap.size w w3 := hb2.trans (hgr.mono hb2.size)
  have hs1 := (hr1.later hgr (Nat.le_refl _)).str
  have hs2 := (hr2.later hgr (Nat.le_refl _)).str
  clear hb1 hb2 hb3 hgr hr1 hr2
  by_cases he : m = n
  · subst he
    go_wp2
    go_ret
    exact ⟨rfl, hb4⟩
  · have hf1 : (Crc.put m == Crc.put n) = false := by
      rw [Bool.eq_false_iff]; exact fun hh => he (Crc.put_inj hm hn (beq_iff_eq.1 hh))
    have hf2 : ((m : Int) == (n : Int)) = false := by
      rw [Bool.eq_false_iff]; exact fun hh => he (by have := beq_iff_eq.1 hh; omega)
    have hf3 : (m == n) = false := by
      rw [Bool.eq_false_iff]; exact fun hh => he (beq_iff_eq.1 hh)
    clear he
    go_wp2
    go_ret
    exact ⟨rfl, hb4⟩

end Go.Proofs.Ytagpcplmcagihaa
