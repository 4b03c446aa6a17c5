/-
  The walks of All, the program's and the document's.
-/
import Derived.Test.YtgikcbljkkmkgaaFrames
import Derived.Test.YtgikcbljkkmkgaaFrameRef
set_option linter.unusedVariables false
set_option linter.unusedSimpArgs false
set_option maxRecDepth 1000000
namespace Go.Proofs.Ytgikcbljkkmkgaa
open Go.RowKit

set_option maxHeartbeats 2000000 in
theorem frame_All (v : Value) (l : List UInt8) (w : World) (h : Rd w v l) (hl : l.length ≤ 1000000000) :
    Calls Try.prog 16 #[v] w (RetAF frameE w (allF l)) := by
  have hlen := h.len
  go_enter Try.func16, Try.ntmps16
  go_wp2
  go_loopw [5, 6] (fun a i wr => ∃ (fs : List FrmB) (p f : Nat) (av : Value), p ≤ l.length ∧ i = .int .i64 (p : Int) ∧ a = av ∧ Hid (allF l = (fs ++ (alF f l p).1, (alF f l p).2)) ∧ Hid (l.length ≤ p + f ∧ fs.length ≤ p) ∧ Hid (OwnF frameE wr w.heap.size av fs) ∧ Below w.heap.size w wr) (fun _ i _ => l.length - (intOf i).toNat)
  case atStart => exact ⟨[], 0, l.length, _, by omega, rfl, rfl, Lib.hid rfl, Lib.hid (by simp), Lib.hid (OwnF.nil _ _ _), Below.refl _ _⟩
  case round =>
    obtain ⟨fs, p, f, av, hp, rfl, rfl, HA, HF, HO, hbel⟩ := hrel
    by_cases hlt : p < l.length
    · obtain ⟨v1, hs1, hd1⟩ := h.from p (by omega)
      have hr1 := hd1 wr (h.later hbel (Nat.le_refl _))
      have HD := Lib.hid hd1
      clear hd1
      go_wp2_with fail
      refine (frame_Next v1 _ wr hr1).mono ?_
      rintro e w1 ⟨v2, rfl, ho, hb1⟩
      have hsome := nxF_some (b := l.drop p)
      have hnone := nxF_none (b := l.drop p)
      obtain ⟨k, q, n, er, hr⟩ : ∃ k q n er, nxF (l.drop p) = (k, q, n, er) := ⟨_, _, _, _, rfl⟩
      rw [hr] at ho hsome hnone ⊢
      dsimp only at ho hsome hnone ⊢
      have HR := Lib.hid hr
      clear hr
      have HO1 := Lib.hid (HO.out.later hb1 (Nat.le_refl _))
      have hb2 := hbel.trans (hb1.mono hbel.size)
      obtain ⟨f, rfl⟩ : ∃ g, f = g + 1 := ⟨f - 1, by have := HF.out; omega⟩
      by_cases he : er = 0
      · subst he
        have hs2 := hsome rfl
        rw [List.length_drop] at hs2
        obtain ⟨hs3, hs4, hs5, hs6⟩ := hs2
        clear hsome hnone
        obtain ⟨ao, n2, cap, rfl⟩ := ho.lit
        go_wp2_with (with_reducible refine wplFrame_append w.heap.size _ ?hs (HO1.out.alloc _) w1.heap.size _ (k, q, p) ?hx (heap_alloc_new w1 _) ((ho.base hbel.size).alloc _) ?hn ?hbase w.heap.size w (hb2.alloc hb2.size _) (Nat.le_refl _) ?_)
        case hs => rfl
        case hx => rfl
        case hn => have := HF.out; omega
        case hbase => have := hb2.size; simp; omega
        intro v3 w3 ho3 hb3 _
        have HO3 := Lib.hid ho3
        clear ho3 ho HO1 HO
        go_wp2
        go_roundw
        case rel =>
          refine ⟨fs ++ [(k, q, p)], p + n, f, _, by omega, by go_num, rfl, Lib.hid ?_, Lib.hid ?_, HO3, hb3⟩
          · rw [HA.out, alF_next f (by omega) (by rw [HR.out]; simp), HR.out]
            simp
          · have := HF.out
            rw [List.length_append, List.length_singleton]
            omega
        case measure => simp [intOf]; omega
      · have hne : ((er : Int) != 0) = true := by simp; omega
        clear hsome hnone
        go_wp2
        go_ret3
        refine RetAF.mk ?_ HO1.out hb2 rfl rfl
        rw [HA.out, alF_bad f (by omega) (by rw [HR.out]; exact he), HR.out]
        simp
    · obtain rfl : p = l.length := by omega
      go_wp2
      go_ret3
      refine RetAF.mk ?_ HO.out hbel rfl rfl
      rw [HA.out, alF_end f (Nat.le_refl _)]
      simp

set_option maxHeartbeats 2000000 in
theorem ref_All11 (v : Value) (l : List UInt8) (w : World) (h : Rd w v l) (hl : l.length ≤ 1000000000) :
    Calls Try.prog 17 #[v] w (RetAF frameR w (allF l)) := by
  have hlen := h.len
  go_enter Try.func17, Try.ntmps17
  go_wp2
  go_loopw [5, 6] (fun a i wr => ∃ (fs : List FrmB) (p f : Nat) (av : Value), p ≤ l.length ∧ i = .int .i64 (p : Int) ∧ a = av ∧ Hid (allF l = (fs ++ (alF f l p).1, (alF f l p).2)) ∧ Hid (l.length ≤ p + f ∧ fs.length ≤ p) ∧ Hid (OwnF frameR wr w.heap.size av fs) ∧ Below w.heap.size w wr) (fun _ i _ => l.length - (intOf i).toNat)
  case atStart => exact ⟨[], 0, l.length, _, by omega, rfl, rfl, Lib.hid rfl, Lib.hid (by simp), Lib.hid (OwnF.nil _ _ _), Below.refl _ _⟩
  case round =>
    obtain ⟨fs, p, f, av, hp, rfl, rfl, HA, HF, HO, hbel⟩ := hrel
    by_cases hlt : p < l.length
    · obtain ⟨v1, hs1, hd1⟩ := h.from p (by omega)
      have hr1 := hd1 wr (h.later hbel (Nat.le_refl _))
      have HD := Lib.hid hd1
      clear hd1
      go_wp2_with fail
      refine (ref_Next11 v1 _ wr hr1).mono ?_
      rintro e w1 ⟨v2, rfl, ho, hb1⟩
      have hsome := nxF_some (b := l.drop p)
      have hnone := nxF_none (b := l.drop p)
      obtain ⟨k, q, n, er, hr⟩ : ∃ k q n er, nxF (l.drop p) = (k, q, n, er) := ⟨_, _, _, _, rfl⟩
      rw [hr] at ho hsome hnone ⊢
      dsimp only at ho hsome hnone ⊢
      have HR := Lib.hid hr
      clear hr
      have HO1 := Lib.hid (HO.out.later hb1 (Nat.le_refl _))
      have hb2 := hbel.trans (hb1.mono hbel.size)
      obtain ⟨f, rfl⟩ : ∃ g, f = g + 1 := ⟨f - 1, by have := HF.out; omega⟩
      by_cases he : er = 0
      · subst he
        have hs2 := hsome rfl
        rw [List.length_drop] at hs2
        obtain ⟨hs3, hs4, hs5, hs6⟩ := hs2
        clear hsome hnone
        obtain ⟨ao, n2, cap, rfl⟩ := ho.lit
        go_wp2_with (with_reducible refine wplFrameR_append w.heap.size _ ?hs (HO1.out.alloc _) w1.heap.size _ (k, q, p) ?hx (heap_alloc_new w1 _) ((ho.base hbel.size).alloc _) ?hn ?hbase w.heap.size w (hb2.alloc hb2.size _) (Nat.le_refl _) ?_)
        case hs => rfl
        case hx => rfl
        case hn => have := HF.out; omega
        case hbase => have := hb2.size; simp; omega
        intro v3 w3 ho3 hb3 _
        have HO3 := Lib.hid ho3
        clear ho3 ho HO1 HO
        go_wp2
        go_roundw
        case rel =>
          refine ⟨fs ++ [(k, q, p)], p + n, f, _, by omega, by go_num, rfl, Lib.hid ?_, Lib.hid ?_, HO3, hb3⟩
          · rw [HA.out, alF_next f (by omega) (by rw [HR.out]; simp), HR.out]
            simp
          · have := HF.out
            rw [List.length_append, List.length_singleton]
            omega
        case measure => simp [intOf]; omega
      · have hne : ((er : Int) != 0) = true := by simp; omega
        clear hsome hnone
        go_wp2
        go_ret3
        refine RetAF.mk ?_ HO1.out hb2 rfl rfl
        rw [HA.out, alF_bad f (by omega) (by rw [HR.out]; exact he), HR.out]
        simp
    · obtain rfl : p = l.length := by omega
      go_wp2
      go_ret3
      refine RetAF.mk ?_ HO.out hbel rfl rfl
      rw [HA.out, alF_end f (Nat.le_refl _)]
      simp

end Go.Proofs.Ytgikcbljkkmkgaa
