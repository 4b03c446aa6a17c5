/-
  FrameBack: frames, one behind the other, are all read, each at its place; with the last byte cut off the last one is too short. For every input.
-/
import Derived.Test.YtgikcbljkkmkgaaFrameWrites
import Derived.Test.YtgikcbljkkmkgaaFrameNexts
import Derived.Test.YtgikcbljkkmkgaaFrameBackM
import Derived.Test.YtgikcbljkkmkgaaNatSl
set_option linter.unusedVariables false
set_option linter.unusedSimpArgs false
set_option maxRecDepth 1000000
namespace Go.Proofs.Ytgikcbljkkmkgaa
open Go.RowKit

/-- The frames that the statement writes. -/
def bkOf (ks p : List UInt8) (j : Nat) : Nat × List UInt8 := ((at8 ks j % 3).toNat, p.take (min j p.length))
theorem bkOf_kind (ks p : List UInt8) (j : Nat) : (bkOf ks p j).1 ≤ 2 := by
  have := at8_lo ks j
  show (at8 ks j % 3).toNat ≤ 2
  omega
theorem bkOf_pay {ks p : List UInt8} (hp : p.length ≤ 100) (j : Nat) : (bkOf ks p j).2.length ≤ 100 := by
  show (p.take (min j p.length)).length ≤ 100
  rw [List.length_take]; omega

set_option maxHeartbeats 4000000 in
theorem frameBack_walk (v1 : Value) (ks : List UInt8) (v2 : Value) (p : List UInt8) (w : World) (h : Rd w v1 ks) (h' : Rd w v2 p) :
    Calls Try.prog 6 #[v1, v2] w fun e w' => e = .returned (.bool true) ∧ Below w.heap.size w w' := by
  have hlen := h.len
  have hlen' := h'.len
  have hsm := h.small
  have hsm' := h'.small
  go_enter Try.func6, Try.ntmps6
  go_wp2_with fail
  refine (law11_alive w).mono ?_
  rintro e w1 ⟨rfl, hb1⟩
  by_cases hbig : 40 < ks.length
  · go_wp2_with fail
    refine (law11_alive w1).mono ?_
    rintro e w2 ⟨rfl, hb2⟩
    replace hb2 := hb1.trans (hb2.mono hb1.size)
    go_wp2
    go_ret
    exact ⟨rfl, hb2⟩
  · by_cases hbig' : 100 < p.length
    · go_wp2_with fail
      refine (law11_alive w1).mono ?_
      rintro e w2 ⟨rfl, hb2⟩
      replace hb2 := hb1.trans (hb2.mono hb1.size)
      go_wp2
      go_ret
      exact ⟨rfl, hb2⟩
    · have hk := bkOf_kind ks p
      have hpy := bkOf_pay (ks := ks) (p := p) (by omega)
      have hsmall := bkB_small (fr := bkOf ks p) hpy (by omega)
      obtain ⟨n, hn⟩ : ∃ n, n = ks.length := ⟨_, rfl⟩
      rw [← hn] at hlen hbig hsm
      have HN := Lib.hid hn
      have HK := Lib.hid (And.intro hk (And.intro hpy hsmall))
      clear hn hk hpy hsmall
      go_wp2
      go_loopw [5, 6, 34] (fun a t i wr => ∃ (j : Nat) (va vt : Value), j ≤ n ∧ i = .int .i64 j ∧ a = va ∧ t = vt ∧ Hid (Own wr w1.heap.size va (bkB (bkOf ks p) j) ∧ OwnN wr w1.heap.size vt (bkA (bkOf ks p) j)) ∧ Hid (Below w1.heap.size w1 wr)) (fun _ _ i _ => n - (intOf i).toNat)
      case atStart => exact ⟨0, _, _, by omega, rfl, rfl, rfl, Lib.hid ⟨own_nil _ _, OwnN.nil _ _⟩, Lib.hid (Below.refl _ _)⟩
      case round =>
        obtain ⟨j, va, vt, hj, rfl, rfl, rfl, HO, HB⟩ := hrel
        have hbr := hb1.trans (HB.out.mono hb1.size)
        have hj40 : (bkB (bkOf ks p) j).length ≤ 40 * 115 := Nat.le_trans (HK.out.2.2 j) (Nat.mul_le_mul (by omega) (by omega))
        by_cases hlt : j < n
        · have hks := h.later hbr (Nat.le_refl _)
          have hidx := hks.idx j (by rw [← HN.out]; exact hlt)
          have hcel := hks.cells j (by rw [← HN.out]; exact hlt)
          have hc0 := at8_lo ks j
          have hc1 := at8_hi ks j
          obtain ⟨c, hc⟩ : ∃ c, c = at8 ks j := ⟨_, rfl⟩
          obtain ⟨mn, hmn0⟩ : ∃ mn : Nat, mn = min j p.length := ⟨_, rfl⟩
          have hmn : min (j : Int) (p.length : Int) = (mn : Int) := by omega
          have HF : Hid (bkOf ks p j = ((c % 3).toNat, p.take mn)) := Lib.hid (by rw [hc, hmn0]; rfl)
          rw [← hc] at hcel hc0 hc1
          obtain ⟨q, hq⟩ : ∃ q : Nat, c % 3 = (q : Int) := ⟨(c % 3).toNat, by omega⟩
          have hq2 : q ≤ 2 := by omega
          rw [hq, Int.toNat_natCast] at HF
          have hps := h'.later hbr (Nat.le_refl _)
          obtain ⟨v3, hs3, hd3⟩ := hps.upto mn (by omega)
          have hr3 := hd3 wr hps
          have hplen : (p.take mn).length ≤ 100 := by rw [List.length_take]; omega
          clear hd3 hc hmn0 hks
          go_wp2_with fail
          refine (frame_Write q v3 _ wr hr3).mono ?_
          rintro e w2 ⟨vb, rfl, ho2, hb2⟩
          rw [wrF_fine hq2 (by omega)] at ho2 ⊢
          dsimp only at ho2 ⊢
          have hfs := frB_small q (l := p.take mn) (by omega)
          have hbk : Hid (bkB (bkOf ks p) (j + 1) = bkB (bkOf ks p) j ++ frB q (p.take mn)) := Lib.hid (by rw [bkB, HF.out])
          have hba : Hid (bkA (bkOf ks p) (j + 1) = bkA (bkOf ks p) j ++ [(bkB (bkOf ks p) j).length]) := Lib.hid rfl
          obtain ⟨b, hb⟩ : ∃ b, b = frB q (p.take mn) := ⟨_, rfl⟩
          obtain ⟨B, hB⟩ : ∃ B, B = bkB (bkOf ks p) j := ⟨_, rfl⟩
          obtain ⟨A, hA⟩ : ∃ A, A = bkA (bkOf ks p) j := ⟨_, rfl⟩
          rw [← hb] at ho2 hfs hbk
          rw [← hB] at hbk hba HO hj40
          rw [← hA] at hba HO
          have hAl : A.length ≤ 1000 := by rw [hA, bkA_length]; omega
          clear hb hB hA
          have HO2 := Lib.hid (And.intro (HO.out.1.later hb2 (Nat.le_refl _)) (HO.out.2.later hb2 (Nat.le_refl _)))
          have hbw2 := HB.out.trans (hb2.mono HB.out.size)
          have hlB := (HO2.out.1.rd (by omega)).len
          clear HO HB
          go_wp2_with (with_reducible refine wplN_append w1.heap.size _ ?hs (HO2.out.2.alloc _) w2.heap.size _ ?hx (heap_alloc_new w2 _) ?hn ?hbase w1.heap.size w1 (hbw2.alloc hbw2.size _) (Nat.le_refl _) ?_)
          case hs => rfl
          case hx => rfl
          case hn => omega
          case hbase => have := hbw2.size; simp; omega
          intro v4 w4 hn4 hb4 hg4
          have ho4 := (HO2.out.1.alloc (.cells #[.int .i64 (B.length : Int)] 3)).aside (HO2.out.2.alloc (.cells #[.int .i64 (B.length : Int)] 3)) (by decide) hg4
          have hvb := (ho2.alloc (.cells #[.int .i64 (B.length : Int)] 3)).aside (HO2.out.2.alloc (.cells #[.int .i64 (B.length : Int)] 3)) (by decide) hg4
          have hrb := hvb.rd (by omega)
          clear HO2 hg4 hvb ho2 hlB
          have HN4 := Lib.hid hn4
          clear hn4
          go_wp2_with (with_reducible refine wpl_append w1.heap.size _ B ?hs1 ho4 _ b ?hx1 hrb ?hn1 ?hbase1 w1.heap.size w1 hb4 (Nat.le_refl _) ?_)
          case hs1 => rfl
          case hx1 => rfl
          case hn1 => omega
          case hbase1 => exact hb4.size
          intro v5 w5 ho5 hb5 hg5
          have HN5 := Lib.hid (OwnG.asideB HN4.out ho4 (by decide) hg5)
          have HO5 := Lib.hid ho5
          have HB5 := Lib.hid hb5
          clear HN4 ho4 hrb hg5 ho5 hb5 hb4 hb2 hbw2
          go_wp2
          go_roundw
          case rel =>
            refine ⟨j + 1, _, _, by omega, by go_num, rfl, rfl, Lib.hid ⟨?_, ?_⟩, HB5⟩
            · rw [hbk.out]; exact HO5.out
            · rw [hba.out]; exact HN5.out
          case measure => simp [intOf]; omega
        · obtain rfl : j = n := by omega
          clear hlt hj
          have hall := allF_back (fr := bkOf ks p) HK.out.1 (fun i => Nat.le_trans (HK.out.2.1 i) (by omega)) j
          have hcut := allF_cut (fr := bkOf ks p) HK.out.1 (fun i => Nat.le_trans (HK.out.2.1 i) (by omega)) (j - 1)
          have hFl := bkF_length (fr := bkOf ks p) j
          have hFa := bkF_at (fr := bkOf ks p) j
          have hAl := bkA_length (fr := bkOf ks p) j
          have hAa := bkA_at (fr := bkOf ks p) j
          have hBp : 0 < j → 6 ≤ (bkB (bkOf ks p) j).length := fun hp => by
            obtain ⟨i, rfl⟩ : ∃ i, j = i + 1 := ⟨j - 1, by omega⟩
            exact bkB_pos i
          have hB0 : j = 0 → (bkB (bkOf ks p) j).length = 0 := fun hp => by subst hp; rfl
          have hcut : 0 < j → allF ((bkB (bkOf ks p) j).take ((bkB (bkOf ks p) j).length - 1)) = (bkF (bkOf ks p) (j - 1), (bkB (bkOf ks p) (j - 1)).length, 5) := fun hp => by
            rw [show j - 1 + 1 = j from by omega] at hcut
            exact hcut
          obtain ⟨B, hB⟩ : ∃ B, B = bkB (bkOf ks p) j := ⟨_, rfl⟩
          obtain ⟨F, hF⟩ : ∃ F, F = bkF (bkOf ks p) j := ⟨_, rfl⟩
          obtain ⟨A, hA⟩ : ∃ A, A = bkA (bkOf ks p) j := ⟨_, rfl⟩
          rw [← hB, ← hF] at hall
          rw [← hB] at hcut hBp hB0 hj40 HO
          rw [← hF] at hFl hFa
          rw [← hA] at hAl hAa HO
          obtain ⟨N, hN⟩ : ∃ N, N = B.length := ⟨_, rfl⟩
          rw [← hN] at hall hcut hBp hB0 hj40
          have HA := Lib.hid (And.intro hall (And.intro hcut (And.intro hFa (And.intro hAa (And.intro hBp (And.intro hB0 (And.intro hN (And.intro hFl hAl))))))))
          clear hall hcut hB hF hA hFa hAa hBp hB0
          have hrb := HO.out.1.rd (by omega)
          go_wp2_with fail
          refine (frame_All _ _ wr hrb (by omega)).mono ?_
          rintro e w3 ⟨vf, rfl, hf3, hb3⟩
          rw [HA.out.1] at hf3 ⊢
          dsimp only at hf3 ⊢
          have HO3 := Lib.hid (And.intro (HO.out.1.later hb3 (Nat.le_refl _)) (And.intro (HO.out.2.later hb3 (Nat.le_refl _)) hf3))
          have hbw3 := hbr.trans (hb3.mono hbr.size)
          have hlB := (HO3.out.1.rd (by omega)).len
          have hlF : ∀ u, (Builtin.len_ #[35] 3 #[vf]).run Try.prog u = .ok (.int .i64 (j : Int)) u := by
            have := hf3.len frameOk (by omega)
            rw [hFl] at this
            exact this
          rw [← hN] at hlB
          clear hN hFl hAl
          clear HO HB hbr hrb hf3 hb3
          go_wp2
          clear hlF hlB
          go_loopw [86] (fun i wr => ∃ k : Nat, k ≤ j ∧ i = .int .i64 k ∧ Hid (Below w3.heap.size w3 wr)) (fun i _ => j - (intOf i).toNat)
          case atStart => exact ⟨0, by omega, rfl, Lib.hid (Below.refl _ _)⟩
          case round =>
            obtain ⟨k, hk, rfl, HB⟩ := hrel
            by_cases hlt : k < j
            · have hf4 := HO3.out.2.2.later HB.out (Nat.le_refl _)
              obtain ⟨b4, o4, p4, hi4, hc40, hc41, hc42, hp4⟩ := hf4.get frameOk rfl (by have := HA.out.2.2.2.2.2.2.2.1; omega) (i := k) (by have := HA.out.2.2.2.2.2.2.2.1; omega)
              have hi4 : ∀ u, (Instr.indexAt 35 vf (.int .i64 (k : Int))).run Try.prog u = .ok (.pointer (some ⟨b4, o4, none⟩)) u := hi4
              rw [HA.out.2.2.1 k hlt] at hc40 hc42 hp4
              dsimp only at hc40 hc42 hp4
              obtain ⟨mn, hmn0⟩ : ∃ mn : Nat, mn = min k p.length := ⟨_, rfl⟩
              have hmn : min (k : Int) (p.length : Int) = (mn : Int) := by omega
              have hc0 := at8_lo ks k
              have hc1 := at8_hi ks k
              obtain ⟨c, hc⟩ : ∃ c, c = at8 ks k := ⟨_, rfl⟩
              have hbk : bkOf ks p k = ((c % 3).toNat, p.take mn) := by rw [hc, hmn0]; rfl
              rw [← hc] at hc0 hc1
              obtain ⟨q, hq⟩ : ∃ q : Nat, c % 3 = (q : Int) := ⟨(c % 3).toNat, by omega⟩
              rw [hq, Int.toNat_natCast] at hbk
              rw [hbk] at hc40 hp4
              obtain ⟨nb, hnb⟩ : ∃ nb, nb = (bkB (bkOf ks p) k).length := ⟨_, rfl⟩
              rw [← hnb] at hc42
              dsimp only at hc40 hp4
              have hbw := hbw3.trans (HB.out.mono hbw3.size)
              have hks := h.later hbw (Nat.le_refl _)
              have hps := h'.later hbw (Nat.le_refl _)
              have hvt := HO3.out.2.1.later HB.out (Nat.le_refl _)
              obtain ⟨ao4, n4, cap4, rfl⟩ := hp4.lit
              have HX := Lib.hid (And.intro hc hnb)
              clear hf4 hc hnb hmn0 hbk
              go_wp2_with fail
              obtain ⟨w9, hw9⟩ : ∃ w9, w9 = wr.alloc (.cells #[.int .i64 (q : Int), .slice ao4 n4 cap4, .int .i64 (nb : Int)] 42) := ⟨_, rfl⟩
              have hblk : w9.heap[wr.heap.size]? = some (.cells #[.int .i64 (q : Int), .slice ao4 n4 cap4, .int .i64 (nb : Int)] 42 (0, 0)) := by rw [hw9]; exact heap_alloc_new wr _
              have hb9 : Below wr.heap.size wr w9 := by rw [hw9]; exact (Below.refl _ _).alloc (Nat.le_refl _) _
              rw [← hw9]
              clear hw9
              have e0 : w9.cell? ⟨wr.heap.size, 0, none⟩ = some (.int .i64 (q : Int)) := by rw [cell_of_row _ _ _ _ _ _ hblk]; rfl
              have e1 : w9.cell? ⟨wr.heap.size, 1, none⟩ = some (.slice ao4 n4 cap4) := by rw [cell_of_row _ _ _ _ _ _ hblk]; rfl
              have e2 : w9.cell? ⟨wr.heap.size, 2, none⟩ = some (.int .i64 (nb : Int)) := by rw [cell_of_row _ _ _ _ _ _ hblk]; rfl
              have hp9 := (hp4.later hb9 (Nat.le_refl _)).rd (by rw [List.length_take]; omega)
              have hks9 := hks.later hb9 (Nat.le_refl _)
              have hps9 := hps.later hb9 (Nat.le_refl _)
              have hvt9 := hvt.later hb9 (Nat.le_refl _)
              have hidx := hks9.idx k (by rw [← HN.out]; exact hlt)
              have hcel := hks9.cells k (by rw [← HN.out]; exact hlt)
              rw [← HX.out.1] at hcel
              obtain ⟨v6, hs6, hd6⟩ := hps9.upto mn (by omega)
              have hr6 := hd6 w9 hps9
              obtain ⟨a9, hi9, hc9⟩ := hvt9.get (by have := HA.out.2.2.2.2.2.2.2.2; omega) (i := k) (by have := HA.out.2.2.2.2.2.2.2.2; omega)
              rw [HA.out.2.2.2.1 k hlt, ← HX.out.2] at hc9
              have hs4 : ∀ q, (convert 22 9 (.slice ao4 n4 cap4)).run Try.prog (w9.drewN q) = .ok (.string ⟨(p.take mn).toArray⟩) (w9.drewN q) := fun q => (hp9.later (below_drewN (Below.refl _ _) q) (Nat.le_refl _)).str
              have hs5 : ∀ q, (convert 22 9 v6).run Try.prog (w9.drewN q) = .ok (.string ⟨(p.take mn).toArray⟩) (w9.drewN q) := fun q => (hr6.later (below_drewN (Below.refl _ _) q) (Nat.le_refl _)).str
              have HB9 := Lib.hid (HB.out.trans (hb9.mono HB.out.size))
              clear hp4 hp9 hks hps hvt hks9 hps9 hvt9 hd6 hr6 hc40 hc41 hc42 hi4 hblk hb9 hbw
              go_quiet (fail)
              go_wp2
              go_roundw
              case rel => exact ⟨k + 1, by omega, by go_num, Lib.hid (below_drewN HB9.out _)⟩
              case measure => simp [intOf]; omega
            · obtain rfl : k = j := by omega
              clear hlt hk
              have hbw := hbw3.trans (HB.out.mono hbw3.size)
              have hva := (HO3.out.1.later HB.out (Nat.le_refl _)).rd (by have := HA.out.2.2.2.2.2.2.1; omega)
              have hvt := HO3.out.2.1.later HB.out (Nat.le_refl _)
              have hlB := hva.len
              rw [← HA.out.2.2.2.2.2.2.1] at hlB
              by_cases hk0 : k = 0
              · have hN0 := HA.out.2.2.2.2.2.1 hk0
                subst hN0
                go_wp2
                go_ret
                exact ⟨rfl, hbw⟩
              · have hN6 := HA.out.2.2.2.2.1 (by omega)
                have hNl := HA.out.2.2.2.2.2.2.1
                have hcut := HA.out.2.1 (by omega)
                obtain ⟨v7, hs7, hd7⟩ := hva.upto (N - 1) (by omega)
                rw [show ((N - 1 : Nat) : Int) = (N : Int) - 1 from by omega] at hs7
                have hr7 := hd7 wr hva
                have hne : ((N : Int) == 0) = false := by rw [Bool.eq_false_iff]; exact fun hh => by have := beq_iff_eq.1 hh; omega
                have HC := Lib.hid hcut
                have hpay : (bkF (bkOf ks p) (k - 1)).length = k - 1 := bkF_length _
                clear hd7 hcut hNl
                go_wp2_with fail
                refine (frame_All v7 _ wr hr7 (by rw [List.length_take]; omega)).mono ?_
                rintro e w8 ⟨v8, rfl, ho8, hb8⟩
                rw [HC.out] at ho8 ⊢
                dsimp only at ho8 ⊢
                have hl8 : ∀ u, (Builtin.len_ #[35] 3 #[v8]).run Try.prog u = .ok (.int .i64 ((k : Int) - 1)) u := by
                  have := ho8.len frameOk (by omega)
                  rw [hpay, show ((k - 1 : Nat) : Int) = (k : Int) - 1 from by omega] at this
                  exact this
                have hvt8 := hvt.later hb8 (Nat.le_refl _)
                have hlA := hvt8.len (by have := HA.out.2.2.2.2.2.2.2.2; omega)
                rw [HA.out.2.2.2.2.2.2.2.2] at hlA
                obtain ⟨a9, hi9, hc9⟩ := hvt8.get (by have := HA.out.2.2.2.2.2.2.2.2; omega) (i := k - 1) (by have := HA.out.2.2.2.2.2.2.2.2; omega)
                rw [HA.out.2.2.2.1 (k - 1) (by omega)] at hc9
                rw [show ((k - 1 : Nat) : Int) = (k : Int) - 1 from by omega] at hi9
                obtain ⟨nb, hnb⟩ : ∃ nb, nb = (bkB (bkOf ks p) (k - 1)).length := ⟨_, rfl⟩
                rw [← hnb] at hc9 ⊢
                have hb10 := hbw.trans (hb8.mono hbw.size)
                clear hvt hvt8 hva hr7 ho8 hb8 hnb hpay hlB
                go_wp2
                go_ret
                exact ⟨rfl, hb10⟩

end Go.Proofs.Ytgikcbljkkmkgaa
