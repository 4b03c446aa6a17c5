/-
  FrameTurns: with one to three bits turned, but in its length, a frame isn't read; nor with any turned within 32 that follow each other. For every input.
-/
import Derived.Test.YtgikcbljkkmkgaaFrameAlive
import Derived.Test.YtgikcbljkkmkgaaFrameTurnM
import Derived.Test.YtgikcbljkkmkgaaIntSet
import Derived.RegionTactic
import Derived.BigRegion
set_option linter.unusedVariables false
set_option linter.unusedSimpArgs false
set_option maxRecDepth 1000000
namespace Go.Proofs.Ytgikcbljkkmkgaa
open Go.RowKit

/-- A byte of a slice of the call's own is turned: its block alone turns. -/
theorem Own.set_grown {w : World} {base : Nat} {v : Value} {l : List UInt8} (h : Own w base v l) {i : Nat} (hi : i < l.length) (u : Value) : w.grownBy (w.setCell (adr v i) u) v.ownBlock := by
  obtain ⟨h0, h2⟩ := h
  rcases h2 with ⟨rfl, hn⟩ | ⟨g, cap, cur, rfl, hbg, hg, hn, hm, hs, ht⟩
  · exact absurd hi (by omega)
  · have e : adr (.slice (some ⟨g, 0, none⟩) l.length cap) i = ⟨g, i, none⟩ := by
      simp only [adr, Addr.add]; split <;> simp_all
    rw [e]
    exact grown_setCell (World.grownBy.refl _ _) u

set_option maxHeartbeats 8000000 in
theorem frameTurns_walk (v : Value) (l : List UInt8) (a0 a1 a2 : Int) (b : Int) (w : World) (h : Rd w v l) (hb : 0 ≤ b ∧ b ≤ 4294967295) :
    Calls Try.prog 7 #[v, .agg #[.int .i64 a0, .int .i64 a1, .int .i64 a2], .int .u32 b] w fun e w' => e = .returned (.bool true) ∧ Below w.heap.size w w' := by
  obtain ⟨y, rfl⟩ := Int.eq_ofNat_of_zero_le hb.1
  have hy : y < 4294967296 := by omega
  clear hb
  have hlen := h.len
  have hsm := h.small
  have hW : Below w.heap.size w (w.alloc (.cells #[.int .i64 a0, .int .i64 a1, .int .i64 a2] 48)) := (Below.refl _ _).alloc (Nat.le_refl _) _
  have hA : (w.alloc (.cells #[.int .i64 a0, .int .i64 a1, .int .i64 a2] 48)).heap[w.heap.size]? = some (.cells #[.int .i64 a0, .int .i64 a1, .int .i64 a2] 48 (0, 0)) := heap_alloc_new w _
  have hAs : w.heap.size < (w.alloc (.cells #[.int .i64 a0, .int .i64 a1, .int .i64 a2] 48)).heap.size := by simp
  have h0 := h.alloc (.cells #[.int .i64 a0, .int .i64 a1, .int .i64 a2] 48)
  have HA := Lib.hid hA
  clear hA
  go_enter Try.func7, Try.ntmps7
  go_wp2_with fail
  obtain ⟨w0, hw0⟩ : ∃ w0, w0 = w.alloc (.cells #[.int .i64 a0, .int .i64 a1, .int .i64 a2] 48) := ⟨_, rfl⟩
  rw [← hw0] at hW hAs HA h0 ⊢
  clear hw0
  refine (frame_Write 2 v l w0 h0).mono ?_
  rintro e w1 ⟨v1, rfl, ho1, hb1⟩
  have hW1 : Below w.heap.size w w1 := hW.trans (hb1.mono (Nat.le_of_lt hAs))
  by_cases hbig : 3000 < l.length
  · have hl1 : ∃ L : Nat, (∀ u, (Builtin.len_ #[22] 3 #[v1]).run Try.prog u = .ok (.int .i64 (L : Int)) u) ∧ L ≤ 140737488355328 := by
      by_cases hlim : 1048576 < l.length
      · rw [show wrF (2 : Int) l = ([], 13) from by unfold wrF; rw [if_neg (by omega), if_pos hlim]] at ho1
        exact ⟨0, (ho1.rd (by simp)).len, by omega⟩
      · rw [show wrF (2 : Int) l = (frB 2 l, 0) from wrF_fine (k := 2) (by omega) (by omega)] at ho1
        have := frB_small 2 (l := l) (by omega)
        exact ⟨_, (ho1.rd (by dsimp only; omega)).len, by dsimp only; omega⟩
    obtain ⟨L, hl1, hL⟩ := hl1
    have hdec : decide (3000 < (l.length : Int)) = true := decide_eq_true (by omega)
    obtain ⟨er, her⟩ : ∃ er : Nat, er = (wrF (2 : Int) l).2 := ⟨_, rfl⟩
    rw [← her]
    clear her
    go_wp2_with fail
    refine (law11_alive w1).mono ?_
    rintro e w2 ⟨rfl, hb2⟩
    replace hb2 := hW1.trans (hb2.mono hW1.size)
    by_cases he : er = 0
    · subst he
      go_wp2_with fail
      refine (law11_alive w2).mono ?_
      rintro e w3 ⟨rfl, hb3⟩
      replace hb3 := hb2.trans (hb3.mono hb2.size)
      go_wp2
      go_ret
      exact ⟨rfl, hb3⟩
    · have hne : ((er : Int) != 0) = true := by simp; omega
      go_wp2_with fail
      refine (law11_alive w2).mono ?_
      rintro e w3 ⟨rfl, hb3⟩
      replace hb3 := hb2.trans (hb3.mono hb2.size)
      go_wp2
      go_ret
      exact ⟨rfl, hb3⟩
  · have hdec : decide (3000 < (l.length : Int)) = false := decide_eq_false (by omega)
    rw [show wrF (2 : Int) l = (frB 2 l, 0) from wrF_fine (k := 2) (by omega) (by omega)] at ho1 ⊢
    dsimp only at ho1 ⊢
    have hbl := hdF_len 2 l
    have hhd : 2 ≤ hdF l ∧ hdF l ≤ 11 := by
      have h1 := encU_pos l.length
      have h2 := encU_le l.length (by omega)
      unfold hdF; omega
    obtain ⟨hd, hhd0⟩ : ∃ hd, hd = hdF l := ⟨_, rfl⟩
    obtain ⟨s, hs⟩ : ∃ s, s = frB 2 l := ⟨_, rfl⟩
    rw [← hhd0] at hbl hhd
    rw [← hs] at hbl ho1
    obtain ⟨n, hn⟩ : ∃ n, n = l.length := ⟨_, rfl⟩
    rw [← hn] at hbl hlen hsm hbig hdec
    have hr1 := ho1.rd (by omega)
    have hlen1 := hr1.len
    rw [hbl] at hlen1
    rw [show ((hd + n + 4 : Nat) : Int) = (hd : Int) + (n : Int) + 4 from by omega] at hlen1
    have HS := Lib.hid (And.intro hs (And.intro hhd0 hn))
    clear hs hhd0 hn
    have hde : (hd : Int) + (n : Int) + 4 - (n : Int) - 4 = (hd : Int) := by omega
    go_wp2_with fail
    refine (law11_alive w1).mono ?_
    rintro e w2 ⟨rfl, hb2⟩
    have hW2 := hW1.trans (hb2.mono hW1.size)
    go_wp2_with fail
    go_loopw [10, 64] (fun f c wr => ∃ (i : Nat) (fv : Value), i ≤ 8 * (hd + n + 4) ∧ c = .int .i64 i ∧ f = fv ∧ Hid (OwnN wr w2.heap.size fv (frees hd i)) ∧ Hid (Below w2.heap.size w2 wr)) (fun _ c _ => 8 * (hd + n + 4) - (intOf c).toNat)
    case atStart => exact ⟨0, _, by omega, rfl, rfl, Lib.hid (ownN_empty w2 _ (Nat.le_refl _)), Lib.hid ((Below.refl _ _).alloc (Nat.le_refl _) _)⟩
    case round =>
      obtain ⟨i, fv, hi, rfl, rfl, HF, HB⟩ := hrel
      by_cases hlt : i < 8 * (hd + n + 4)
      · have hfl : (frees hd i).length ≤ 1000000 := Nat.le_trans (frees_length hd i) (by omega)
        by_cases hin : i < 8 ∨ 8 * hd ≤ i
        · have HY := Lib.hid (frees_yes hin)
          obtain ⟨fl, hfl0⟩ : ∃ fl, fl = frees hd i := ⟨_, rfl⟩
          rw [← hfl0] at HF HY hfl
          clear hfl0
          have hba := HB.out.alloc HB.out.size (.cells #[.int .i64 (i : Int)] 3)
          rcases hin with hin | hin
          · have hge : decide ((i : Int) < 8) = true := decide_eq_true (by omega)
            go_wp2_with (with_reducible refine wplN_append w2.heap.size _ ?hs (HF.out.alloc _) wr.heap.size i ?hx (heap_alloc_new wr _) ?hn ?hbase w2.heap.size w2 hba (Nat.le_refl _) ?_)
            case hs => rfl
            case hx => rfl
            case hn => omega
            case hbase => have := HB.out.size; simp; omega
            intro v3 w3 ho3 hb3 _
            rw [← HY.out] at ho3
            have HF3 := Lib.hid ho3
            have HB3 := Lib.hid hb3
            clear ho3 hb3 HF HB hba
            go_wp2
            go_roundw
            case rel => exact ⟨i + 1, _, by omega, by go_num, rfl, HF3, HB3⟩
            case measure => simp [intOf]; omega
          · have hge : decide ((i : Int) < 8) = false := decide_eq_false (by omega)
            go_wp2_with (with_reducible refine wplN_append w2.heap.size _ ?hs1 (HF.out.alloc _) wr.heap.size i ?hx1 (heap_alloc_new wr _) ?hn1 ?hbase1 w2.heap.size w2 hba (Nat.le_refl _) ?_)
            case hs1 => rfl
            case hx1 => rfl
            case hn1 => omega
            case hbase1 => have := HB.out.size; simp; omega
            intro v3 w3 ho3 hb3 _
            rw [← HY.out] at ho3
            have HF3 := Lib.hid ho3
            have HB3 := Lib.hid hb3
            clear ho3 hb3 HF HB hba
            go_wp2
            go_roundw
            case rel => exact ⟨i + 1, _, by omega, by go_num, rfl, HF3, HB3⟩
            case measure => simp [intOf]; omega
        · have HY := Lib.hid (frees_no hin)
          have hge : decide ((i : Int) < 8) = false := decide_eq_false (by omega)
          have hge2 : i < 8 * hd := by omega
          clear hin
          go_wp2
          go_roundw
          case rel => exact ⟨i + 1, _, by omega, by go_num, rfl, Lib.hid (by rw [HY.out]; exact HF.out), HB⟩
          case measure => simp [intOf]; omega
      · obtain rfl : i = 8 * (hd + n + 4) := by omega
        clear hlt hi
        have hFl := frees_length hd (8 * (hd + n + 4))
        have hFp := frees_pos (hd := hd) (i := 8 * (hd + n + 4)) (by omega)
        have hFa := fun j => frees_at (hd := hd) (i := 8 * (hd + n + 4)) (j := j)
        obtain ⟨F, hF0⟩ : ∃ F, F = frees hd (8 * (hd + n + 4)) := ⟨_, rfl⟩
        rw [← hF0] at hFl hFp hFa HF
        obtain ⟨m, hm0⟩ : ∃ m, m = F.length := ⟨_, rfl⟩
        rw [← hm0] at hFl hFp hFa
        have HFA := Lib.hid (And.intro hFa hm0)
        clear hF0 hFa hm0
        have hWr := hW2.trans (HB.out.mono hW2.size)
        have hrs := (hr1.later hb2 (Nat.le_refl _)).later HB.out (Nat.le_refl _)
        have hbe := HB.out.alloc HB.out.size (.cells #[] 5)
        go_wp2_with (with_reducible refine wpl_append w2.heap.size _ [] ?hs2 (own_empty wr w2.heap.size HB.out.size) _ s ?hx2 (hrs.alloc _) ?hn2 ?hbase2 w2.heap.size w2 hbe (Nat.le_refl _) ?_)
        case hs2 => rfl
        case hx2 => rfl
        case hn2 => simp; omega
        case hbase2 => have := HB.out.size; simp; omega
        intro v3 w3 ho3 hb3 hg3
        rw [List.nil_append] at ho3
        have hF3 := OwnG.asideB (HF.out.alloc (.cells #[] 5)) (own_empty wr w2.heap.size HB.out.size) (by decide) hg3
        have hF3 : OwnN w3 w2.heap.size u10 F := hF3
        have hmt := own_block_lt ho3
        have hmf : ∀ k, u10.ownBlock = some k → k < w3.heap.size := fun k hk => (OwnG.lt hF3 hk).2
        have hbm := hb3.alloc hb3.size (.map #[] 0)
        have hWm := hW2.trans (hbm.mono hW2.size)
        have hBx : (w3.alloc (.map #[] 0)).heap[w.heap.size]? = some (.cells #[.int .i64 a0, .int .i64 a1, .int .i64 a2] 48 (0, 0)) := by
          have hb02 : Below w0.heap.size w0 (w3.alloc (.map #[] 0)) := hb1.trans ((hb2.trans (hbm.mono hb2.size)).mono hb1.size)
          rw [hb02.block _ hAs]; exact HA.out
        have hc0 : (w3.alloc (.map #[] 0)).cell? ⟨w.heap.size, 0, none⟩ = some (.int .i64 a0) := by rw [cell_of_row _ _ _ _ _ _ hBx]; rfl
        have hc1 : (w3.alloc (.map #[] 0)).cell? ⟨w.heap.size, 1, none⟩ = some (.int .i64 a1) := by rw [cell_of_row _ _ _ _ _ _ hBx]; rfl
        have hc2 : (w3.alloc (.map #[] 0)).cell? ⟨w.heap.size, 2, none⟩ = some (.int .i64 a2) := by rw [cell_of_row _ _ _ _ _ _ hBx]; rfl
        have hix : ∀ k : Nat, k < 3 → ∃ x : Int, ∀ u, (Instr.index 48 (.agg #[.int .i64 a0, .int .i64 a1, .int .i64 a2]) (.int .i64 (k : Int))).run Try.prog u = .ok (.int .i64 x) u := by
          intro k hk
          rcases (show k = 0 ∨ k = 1 ∨ k = 2 by omega) with rfl | rfl | rfl
          · exact ⟨a0, fun u => by kernel_rfl⟩
          · exact ⟨a1, fun u => by kernel_rfl⟩
          · exact ⟨a2, fun u => by kernel_rfl⟩
        have HI := Lib.hid (And.intro (ho3.alloc (.map #[] 0)) (And.intro (OwnN.alloc hF3 (.map #[] 0)) (And.intro (SetI.made w3) hbm)))
        have HM := Lib.hid (And.intro hmt (And.intro hmf hb3.size))
        clear hBx ho3 hF3 hbm hmt hmf hg3 hbe HF
        have hmm := @run_makeMap Try.prog
        go_wp2
        clear hc0 hc1 hc2 hmm
        go_loopw [85] (fun c wr => ∃ (k : Nat) (t : List UInt8) (ps : List Nat), k ≤ 3 ∧ c = .int .i64 k ∧ Hid (Own wr w2.heap.size v3 t ∧ OwnN wr w2.heap.size u10 F ∧ SetI wr w3.heap.size ps ∧ Below w2.heap.size w2 wr) ∧ t.length = hd + n + 4 ∧ Hid (ps.length = k ∧ (∀ p ∈ ps, p < 8 * (hd + n + 4)) ∧ Crc.le t = Crc.le s ^^^ orAll ps ∧ ∀ i, 1 ≤ i → i < hd → t.getD i 0 = s.getD i 0)) (fun c _ => 3 - (intOf c).toNat)
        case atStart => exact ⟨0, s, [], by omega, rfl, HI, hbl, Lib.hid ⟨rfl, by simp, by simp [orAll], fun _ _ _ => rfl⟩⟩
        case round =>
          obtain ⟨k, t, ps, hk, rfl, HR, htl, HT⟩ := hrel
          by_cases hlt : k < 3
          · obtain ⟨x, hx⟩ := hix k hlt
            obtain ⟨p, hp, hpl⟩ := place_of x (m : Int) (by omega) (by omega)
            obtain ⟨a, hia, hca⟩ := HR.out.2.1.get (by have := HFA.out.2; omega) (i := p) (by have := HFA.out.2; omega)
            have hlF := HR.out.2.1.len (by have := HFA.out.2; omega)
            rw [← HFA.out.2] at hlF
            have hz := HFA.out.1 p (by omega)
            obtain ⟨z, hz0⟩ : ∃ z, z = F.getD p 0 := ⟨_, rfl⟩
            rw [← hz0] at hca hz
            clear hz0
            obtain ⟨hz1, hz2⟩ := hz
            have hlook := HR.out.2.2.1.look z (by omega)
            have HZ := Lib.hid hz2
            clear hz2
            by_cases hcon : ps.contains z = true
            · rw [hcon] at hlook
              go_wp2_with (with_reducible refine wpl_setPlace w3.heap.size ps HR.out.2.2.1 ?hm3 z ?hz3 ?hx3 ?hv3 ?hn3 ?_)
              case hm3 => rfl
              case hz3 => omega
              case hx3 => rfl
              case hv3 => rfl
              case hn3 => have := HT.out.1; unfold maxLen; omega
              intro w4 hi4 hg4
              have ho4 := HR.out.1.grown hg4 (fun j hj e => by have := HM.out.1 j hj; injection e with e; omega)
              have hf4 : OwnN w4 w2.heap.size u10 F := OwnG.grown HR.out.2.1 hg4 (fun j hj e => by have := HM.out.2.1 j hj; injection e with e; omega)
              have hb4 := HR.out.2.2.2.grown hg4 HR.out.2.2.2.size (fun j hj => by injection hj with hj; have := HM.out.2.2; omega)
              have HR4 := Lib.hid (And.intro ho4 (And.intro hf4 (And.intro hi4 hb4)))
              clear ho4 hf4 hi4 hb4 hg4 hlook HR hia hca hlF
              go_wp2
              go_roundw
              case rel =>
                refine ⟨k + 1, t, z :: ps, by omega, by go_num, HR4, htl, Lib.hid ⟨by simp [HT.out.1], ?_, ?_, HT.out.2.2.2⟩⟩
                · intro q hq
                  rcases List.mem_cons.1 hq with rfl | hq
                  · omega
                  · exact HT.out.2.1 q hq
                · rw [orAll_old hcon]; exact HT.out.2.2.1
              case measure => simp [intOf]; omega
            · have hcon : ps.contains z = false := by simpa using hcon
              rw [hcon] at hlook
              have hq : z / 8 < t.length := by omega
              obtain ⟨hrg, hfr, hBg⟩ := HR.out.1.set hq (UInt8.ofNat ((t.getD (z / 8) 0).toNat ^^^ 2 ^ (z % 8)))
              rw [← xor_bit t z] at hrg
              have hset := HR.out.1.set_grown hq (.int .u8 (bits .xor .u8 (at8 t (z / 8)) (2 ^ (z % 8) % 256)))
              have hrt := HR.out.1.rd (by omega)
              have hidx := hrt.idx (z / 8) hq
              have hcel := hrt.cells (z / 8) hq
              rw [show ((z / 8 : Nat) : Int) = (z : Int) / 8 from by omega] at hidx
              have hf5 := OwnG.asideB HR.out.2.1 HR.out.1 (by decide) hset
              have hi5 := HR.out.2.2.1.kept hset (fun e => by have := HM.out.1 _ e.symm; omega)
              have hb5 := HR.out.2.2.2.setCell hBg (.int .u8 (bits .xor .u8 (at8 t (z / 8)) (2 ^ (z % 8) % 256)))
              have hrg2 := hrg.drew
              have hf52 := OwnG.drew hf5
              have hi52 := hi5.drew
              have hb52 := hb5.drew
              go_wp2_with fail
              go_region
              obtain ⟨wx, hwx⟩ : ∃ wx, wx = (wr.setCell (adr v3 (z / 8)) (.int .u8 (bits .xor .u8 (at8 t (z / 8)) (2 ^ (z % 8) % 256)))).drew := ⟨_, rfl⟩
              rw [← hwx] at hrg2 hf52 hi52 hb52 ⊢
              have hf52 : OwnN wx w2.heap.size u10 F := hf52
              clear hwx hrg hfr hBg hrt hcel hidx hset hf5 hi5 hb5 hlook hia hca hlF HR
              go_wp2_with (with_reducible refine wpl_setPlace w3.heap.size ps hi52 ?hm4 z ?hz4 ?hx4 ?hv4 ?hn4 ?_)
              case hm4 => rfl
              case hz4 => omega
              case hx4 => rfl
              case hv4 => rfl
              case hn4 => have := HT.out.1; unfold maxLen; omega
              intro w4 hi4 hg4
              have ho4 := hrg2.grown hg4 (fun j hj e => by have := HM.out.1 j hj; injection e with e; omega)
              have hf4 : OwnN w4 w2.heap.size u10 F := OwnG.grown hf52 hg4 (fun j hj e => by have := HM.out.2.1 j hj; injection e with e; omega)
              have hb4 := hb52.grown hg4 hb52.size (fun j hj => by injection hj with hj; have := HM.out.2.2; omega)
              have HR4 := Lib.hid (And.intro ho4 (And.intro hf4 (And.intro hi4 hb4)))
              clear ho4 hf4 hi4 hb4 hg4 hrg2 hf52 hi52 hb52
              go_wp2
              go_roundw
              case rel =>
                refine ⟨k + 1, Crc.flip t z, z :: ps, by omega, by go_num, HR4, by rw [Crc.flip_length]; exact htl, Lib.hid ⟨by simp [HT.out.1], ?_, ?_, fun i h1 h2 => ?_⟩⟩
                · intro q hq
                  rcases List.mem_cons.1 hq with rfl | hq
                  · omega
                  · exact HT.out.2.1 q hq
                · rw [orAll_new hcon]; exact flip_le (by omega) (by omega) HT.out.2.2.1
                · rw [flip_getD (by have := HZ.out; omega)]; exact HT.out.2.2.2 i h1 h2
              case measure => simp [intOf]; omega
          · obtain rfl : k = 3 := by omega
            obtain ⟨hT1, hT2, hT3, hT4⟩ := HT.out
            obtain ⟨hs1, hs2, hs3⟩ := HS.out
            have hbad : ¬ Crc.good t := bad_three (k := 2) (l := l) (by omega) (by rw [← hs1]; omega) hT1 (fun q hq => by rw [← hs1, hbl]; exact hT2 q hq) (by rw [← hs1]; exact hT3)
            have hnx := nxF_turned (k := 2) (l := l) (t := t) (by omega) (by rw [← hs1]; omega) (by rw [← hs1, ← hs2]; exact hT4) hbad
            have hnx2 : ∃ er : Nat, nxF t = (0, [], 0, er) ∧ er ≠ 0 := by
              by_cases h2 : 2 < at8 t 0
              · rw [if_pos h2] at hnx; exact ⟨_, hnx, by decide⟩
              · rw [if_neg h2] at hnx; exact ⟨_, hnx, by decide⟩
            obtain ⟨er, her, hne0⟩ := hnx2
            have hne : ((er : Int) == 0) = false := by rw [Bool.eq_false_iff]; exact fun hh => by have := beq_iff_eq.1 hh; omega
            have HE := Lib.hid her
            have hrt := HR.out.1.rd (by omega)
            clear hT1 hT2 hT3 hT4 hs1 hs2 hs3 hbad hnx her hne0 HT
            go_wp2_with fail
            refine (frame_Next v3 t wr hrt).mono ?_
            rintro e w5 ⟨v5, rfl, ho5, hb5⟩
            rw [HE.out]
            dsimp only
            have hR5 := HR.out.2.2.2.trans (hb5.mono HR.out.2.2.2.size)
            have hW5 := hW2.trans (hR5.mono hW2.size)
            clear ho5 hb5 HR HM HI HE hrt
            by_cases hy0 : y = 0
            · subst hy0
              go_wp2
              go_ret
              exact ⟨rfl, hW5⟩
            · have hy1 : ((y : Int) == 0) = false := by rw [Bool.eq_false_iff]; exact fun hh => by have := beq_iff_eq.1 hh; omega
              have hde2 : (hd : Int) + (n : Int) + 4 - (hd : Int) = (n : Int) + 4 := by omega
              have hde3 : 8 * ((n : Int) + 4) - 31 = 8 * (n : Int) + 1 := by omega
              obtain ⟨p, hp, hpl⟩ := place_of a0 (8 * (n : Int) + 1) (by omega) (by omega)
              obtain ⟨P, hP⟩ : ∃ P : Nat, 8 * (hd : Int) + (p : Int) = (P : Int) := ⟨8 * hd + p, by omega⟩
              have hP1 : 8 * hd ≤ P ∧ P + 32 ≤ 8 * (hd + n + 4) := by omega
              have hB15 := hb2.trans (hR5.mono hb2.size)
              have hrs := hr1.later hB15 (Nat.le_refl _)
              have hlen1 := hrs.len
              rw [hbl, show ((hd + n + 4 : Nat) : Int) = (hd : Int) + (n : Int) + 4 from by omega] at hlen1
              have hbe := (Below.refl w5.heap.size w5).alloc (Nat.le_refl _) (.cells #[] 5)
              go_wp2_with (with_reducible refine wpl_append w5.heap.size _ [] ?hs5 (own_empty w5 w5.heap.size (Nat.le_refl _)) _ s ?hx5 (hrs.alloc _) ?hn5 ?hbase5 w5.heap.size w5 hbe (Nat.le_refl _) ?_)
              case hs5 => rfl
              case hx5 => rfl
              case hn5 => simp; omega
              case hbase5 => simp
              intro v6 w6 ho6 hb6 _
              rw [List.nil_append] at ho6
              have hc0 : w6.cell? ⟨w.heap.size, 0, none⟩ = some (.int .i64 a0) := by
                have hb06 : Below w0.heap.size w0 w6 := (hb1.trans (hB15.mono hb1.size)).trans (hb6.mono (Nat.le_trans hb1.size hB15.size))
                have hBx : w6.heap[w.heap.size]? = some (.cells #[.int .i64 a0, .int .i64 a1, .int .i64 a2] 48 (0, 0)) := by rw [hb06.block _ hAs]; exact HA.out
                rw [cell_of_row _ _ _ _ _ _ hBx]; rfl
              clear hrs hbe hB15
              go_wp2
              clear hc0 hlen1 hp
              go_loopw [144] (fun c wr => ∃ (k : Nat) (t : List UInt8), k ≤ 32 ∧ c = .int .i64 k ∧ t.length = hd + n + 4 ∧ Hid (Crc.le t = Crc.le s ^^^ 2 ^ P * (y % 2 ^ k)) ∧ Hid (∀ i, i < hd → t.getD i 0 = s.getD i 0) ∧ Own wr w5.heap.size v6 t ∧ Below w5.heap.size w5 wr) (fun c _ => 32 - (intOf c).toNat)
              case atStart => exact ⟨0, s, by omega, rfl, hbl, Lib.hid (by simp [Nat.mod_one]), Lib.hid (fun _ _ => rfl), ho6, hb6⟩
              case round =>
                obtain ⟨k, t, hk, rfl, htl, HT, HG, ho, hbel⟩ := hrel
                by_cases hlt : k < 32
                · have hnb := bit_and hy k
                  by_cases hbit : y / 2 ^ k % 2 = 1
                  · rw [hbit] at hnb
                    have hq : (P + k) / 8 < t.length := by omega
                    obtain ⟨hrg, hfr, hBg⟩ := ho.set hq (UInt8.ofNat ((t.getD ((P + k) / 8) 0).toNat ^^^ 2 ^ ((P + k) % 8)))
                    have hrt := ho.rd (by omega)
                    have hidx := hrt.idx ((P + k) / 8) hq
                    have hcel := hrt.cells ((P + k) / 8) hq
                    rw [show (((P + k) / 8 : Nat) : Int) = ((P : Int) + (k : Int)) / 8 from by omega] at hidx
                    go_wp2_with fail
                    go_region
                    go_wp2
                    go_roundw
                    case rel =>
                      refine ⟨k + 1, Crc.flip t (P + k), by omega, by go_num, by rw [Crc.flip_length]; exact htl, Lib.hid ?_, Lib.hid (fun i hi => ?_), ?_, (hbel.setCell hBg _).drew⟩
                      · rw [Crc.le_flip t (P + k) (by omega), HT.out, mod_next_yes y k hbit, mul_xor_pow, ← Nat.pow_add, Nat.xor_assoc]
                      · rw [flip_getD (by omega)]; exact HG.out i hi
                      · rw [xor_bit t (P + k)]
                        exact hrg.drew
                    case measure => simp [intOf]; omega
                  · rw [show y / 2 ^ k % 2 = 0 from by omega] at hnb
                    go_wp2_with fail
                    go_roundw
                    case rel => exact ⟨k + 1, t, by omega, by go_num, htl, Lib.hid (by rw [HT.out, mod_next_no y k (by omega)]), HG, ho, hbel⟩
                    case measure => simp [intOf]; omega
                · obtain rfl : k = 32 := by omega
                  have hT := HT.out
                  rw [Nat.mod_eq_of_lt hy] at hT
                  obtain ⟨hs1, hs2, hs3⟩ := HS.out
                  have hbad : ¬ Crc.good t := bad_burst (k := 2) (l := l) (p := P) (y := y) (by rw [← hs1]; omega) (by rw [← hs1]; omega) hy0 hy (by rw [← hs1]; exact hT)
                  have hnx := nxF_turned (k := 2) (l := l) (t := t) (by omega) (by rw [← hs1]; omega) (by rw [← hs1, ← hs2]; exact fun i _ h2 => HG.out i h2) hbad
                  have h20 : ¬ 2 < at8 t 0 := by
                    have h1 := HG.out 0 (by omega)
                    unfold at8
                    rw [h1, hs1, frB_cons]
                    show ¬ (2 : Int) < (((UInt8.ofNat 2).toNat : Nat) : Int)
                    decide
                  rw [if_neg h20] at hnx
                  have HE := Lib.hid hnx
                  have hrt := ho.rd (by omega)
                  clear hT hs1 hs2 hs3 hbad hnx h20
                  go_wp2_with fail
                  refine (frame_Next v6 t wr hrt).mono ?_
                  rintro e w7 ⟨v7, rfl, ho7, hb7⟩
                  rw [HE.out]
                  dsimp only
                  have hW7 := (hW5.trans (hbel.mono hW5.size)).trans (hb7.mono (Nat.le_trans hW5.size hbel.size))
                  clear ho7 hb7 hrt ho
                  go_wp2
                  go_ret
                  exact ⟨rfl, hW7⟩

end Go.Proofs.Ytgikcbljkkmkgaa
