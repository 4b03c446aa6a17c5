/-
  FrameNexts: of any bytes the frame that they begin with is the document's, or why there is none, and all frames, and where they are wrong. For every input.
-/
import Derived.Test.YtgikcbljkkmkgaaFrameAlive
import Derived.Test.YtgikcbljkkmkgaaFrameAll
import Derived.Deep.QuietTactic
import Derived.BigQuiet
set_option linter.unusedVariables false
set_option linter.unusedSimpArgs false
set_option maxRecDepth 1000000
namespace Go.Proofs.Ytgikcbljkkmkgaa
open Go.RowKit

/-- Frames that are had are no more than their bytes, and their payloads are short. -/
theorem alF_pay : ∀ (f : Nat) (b : List UInt8) (at_ : Nat), (∀ x ∈ (alF f b at_).1, x.2.1.length ≤ 1048576) ∧ (alF f b at_).1.length ≤ f
  | 0, b, at_ => ⟨by simp [alF], by simp [alF]⟩
  | f + 1, b, at_ => by
    by_cases hl : b.length ≤ at_
    · rw [alF_end _ hl]; exact ⟨by simp, by simp⟩
    · by_cases he : (nxF (b.drop at_)).2.2.2 ≠ 0
      · rw [alF_bad f hl he]; exact ⟨by simp, by simp⟩
      · rw [alF_next f hl he]
        obtain ⟨h1, h2⟩ := alF_pay f b (at_ + (nxF (b.drop at_)).2.2.1)
        have hs := nxF_some (b := b.drop at_) (by omega)
        refine ⟨fun x hx => ?_, by simp; omega⟩
        rcases List.mem_cons.1 hx with rfl | hx
        · exact hs.2.2.1
        · exact h1 x hx
theorem allF_pay (b : List UInt8) {i : Nat} (hi : i < (allF b).1.length) : ((allF b).1.getD i default).2.1.length ≤ 1048576 := by
  have e : (allF b).1.getD i default = (allF b).1[i] := by simp [List.getD, hi]
  rw [e]; exact (alF_pay _ _ _).1 _ (List.getElem_mem _)

set_option maxHeartbeats 2000000 in
theorem frameNexts_walk (v : Value) (l : List UInt8) (w : World) (h : Rd w v l) :
    Calls Try.prog 4 #[v] w fun e w' => e = .returned (.bool true) ∧ Below w.heap.size w w' := by
  have hlen := h.len
  have hsm := h.small
  go_enter Try.func4, Try.ntmps4
  go_wp2_with fail
  refine (law11_alive w).mono ?_
  rintro e w1 ⟨rfl, hb1⟩
  by_cases hbig : 4000 < l.length
  · go_wp2_with fail
    refine (law11_alive w1).mono ?_
    rintro e w2 ⟨rfl, hb2⟩
    replace hb2 := hb1.trans (hb2.mono hb1.size)
    go_wp2
    go_ret
    exact ⟨rfl, hb2⟩
  · have hp1 : (nxF l).2.1.length ≤ 1048576 := by
      by_cases he : (nxF l).2.2.2 = 0
      · exact (nxF_some he).2.2.1
      · rw [nxF_none he]; simp
    obtain ⟨k, q, n, er, hr⟩ : ∃ k q n er, nxF l = (k, q, n, er) := ⟨_, _, _, _, rfl⟩
    rw [hr] at hp1
    have hp2 := fun {i : Nat} => allF_pay l (i := i)
    have hp3 : (allF l).1.length ≤ 4000 := Nat.le_trans (alF_pay _ _ _).2 (by omega)
    obtain ⟨fs, to, g, hf⟩ : ∃ fs to g, allF l = (fs, to, g) := ⟨_, _, _, rfl⟩
    rw [hf] at hp2 hp3
    dsimp only at hp1 hp2 hp3
    have HR := Lib.hid (And.intro hr (And.intro hf @hp2))
    clear hr hf hp2
    go_wp2_with fail
    refine (frame_Next v l w1 (h.later hb1 (Nat.le_refl _))).mono ?_
    rintro e w2 ⟨v2, rfl, ho2, hb2⟩
    replace hb2 := hb1.trans (hb2.mono hb1.size)
    rw [HR.out.1] at ho2 ⊢
    dsimp only at ho2 ⊢
    go_wp2_with fail
    refine (ref_Next11 v l w2 (h.later hb2 (Nat.le_refl _))).mono ?_
    rintro e w3 ⟨v3, rfl, ho3, hb3⟩
    replace ho2 := ho2.later hb3 (Nat.le_refl _)
    replace hb3 := hb2.trans (hb3.mono hb2.size)
    rw [HR.out.1] at ho3 ⊢
    dsimp only at ho3 ⊢
    go_wp2_with fail
    refine (frame_All v l w3 (h.later hb3 (Nat.le_refl _)) (by omega)).mono ?_
    rintro e w4 ⟨v4, rfl, ho4, hb4⟩
    replace ho2 := ho2.later hb4 (Nat.le_refl _)
    replace ho3 := ho3.later hb4 (Nat.le_refl _)
    replace hb4 := hb3.trans (hb4.mono hb3.size)
    rw [HR.out.2.1] at ho4 ⊢
    dsimp only at ho4 ⊢
    go_wp2_with fail
    refine (ref_All11 v l w4 (h.later hb4 (Nat.le_refl _)) (by omega)).mono ?_
    rintro e w5 ⟨v5, rfl, ho5, hb5⟩
    replace ho2 := ho2.later hb5 (Nat.le_refl _)
    replace ho3 := ho3.later hb5 (Nat.le_refl _)
    replace ho4 := ho4.later hb5 (Nat.le_refl _)
    replace hb5 := hb4.trans (hb5.mono hb4.size)
    rw [HR.out.2.1] at ho5 ⊢
    dsimp only at ho5 ⊢
    have hs2 := (ho2.rd (by omega)).str
    have hs3 := (ho3.rd (by omega)).str
    have hl4 : ∀ u, (Builtin.len_ #[35] 3 #[v4]).run Try.prog u = .ok (.int .i64 (fs.length : Int)) u := ho4.len frameOk (by omega)
    have hl5 : ∀ u, (Builtin.len_ #[38] 3 #[v5]).run Try.prog u = .ok (.int .i64 (fs.length : Int)) u := ho5.len frameROk (by omega)
    clear ho2 ho3
    have HO := Lib.hid (And.intro ho4 ho5)
    clear ho4 ho5
    obtain ⟨m, hm⟩ : ∃ m, m = fs.length := ⟨_, rfl⟩
    rw [← hm] at hl4 hl5 hp3
    have HM := Lib.hid hm
    clear hm
    go_wp2
    clear hs2 hs3 hl4 hl5
    go_loopw [91] (fun i wr => ∃ j : Nat, j ≤ m ∧ i = .int .i64 j ∧ Hid (Below w5.heap.size w5 wr)) (fun i _ => m - (intOf i).toNat)
    case atStart => exact ⟨0, by omega, rfl, Lib.hid (Below.refl _ _)⟩
    case round =>
      obtain ⟨j, hj, rfl, HB⟩ := hrel
      by_cases hlt : j < m
      · have hjl : j < fs.length := by rw [← HM.out]; exact hlt
        have hf4 := HO.out.1.later HB.out (Nat.le_refl _)
        have hf5 := HO.out.2.later HB.out (Nat.le_refl _)
        obtain ⟨b4, o4, p4, hi4, hc40, hc41, hc42, hp4⟩ := hf4.get frameOk rfl (by have := HM.out; omega) hjl
        obtain ⟨b5, o5, p5, hi5, hc50, hc51, hc52, hp5⟩ := hf5.get frameROk rfl (by have := HM.out; omega) hjl
        have hpl := HR.out.2.2 hjl
        have hs4 : ∀ q, (convert 22 9 p4).run Try.prog (wr.drewN q) = .ok (.string ⟨(fs.getD j default).2.1.toArray⟩) (wr.drewN q) := fun q => ((hp4.rd (by omega)).later (below_drewN (Below.refl _ _) q) (Nat.le_refl _)).str
        have hs5 : ∀ q, (convert 22 9 p5).run Try.prog (wr.drewN q) = .ok (.string ⟨(fs.getD j default).2.1.toArray⟩) (wr.drewN q) := fun q => ((hp5.rd (by omega)).later (below_drewN (Below.refl _ _) q) (Nat.le_refl _)).str
        have hi4 : ∀ u, (Instr.indexAt 35 v4 (.int .i64 (j : Int))).run Try.prog u = .ok (.pointer (some ⟨b4, o4, none⟩)) u := hi4
        have hi5 : ∀ u, (Instr.indexAt 38 v5 (.int .i64 (j : Int))).run Try.prog u = .ok (.pointer (some ⟨b5, o5, none⟩)) u := hi5
        obtain ⟨⟨fk, fp, fa⟩, hfd⟩ : ∃ f, f = fs.getD j default := ⟨_, rfl⟩
        rw [← hfd] at hc40 hc42 hc50 hc52 hs4 hs5
        dsimp only at hc40 hc42 hc50 hc52 hs4 hs5
        clear hfd hp4 hp5 hf4 hf5 hpl hjl
        go_wp2_with fail
        go_quiet (fail)
        go_wp2
        go_roundw
        case rel => exact ⟨j + 1, by omega, by go_num, Lib.hid (below_drewN HB.out _)⟩
        case measure => simp [intOf]; omega
      · obtain rfl : j = m := by omega
        have hb6 := hb5.trans (HB.out.mono hb5.size)
        go_wp2
        go_ret
        exact ⟨rfl, hb6⟩

end Go.Proofs.Ytgikcbljkkmkgaa
