/-
  ReaderMust: a Must that is fulfilled, or has no error, ends nothing; one that isn't ends it at the place where it stands. For every input.
-/
import Derived.Test.YtojjfocnkdijpaaReaderAlive
import Derived.Test.YtojjfocnkdijpaaNums
set_option linter.unusedVariables false
set_option linter.unusedSimpArgs false
namespace Go.Proofs.Ytojjfocnkdijpaa
open Go.RowKit

set_option maxHeartbeats 1000000 in
set_option maxRecDepth 20000 in
theorem must1 (kb ab eb bb g kk ee : Nat) (v : Value) (l : List UInt8) (w : World) (hk : w.heap[kb]? = some (.cells #[.int .i64 (kk : Int)] 3 (0, 0))) (ha : w.heap[ab]? = some (.cells #[.bool false] 4 (0, 0)))
    (he : w.heap[eb]? = some (.cells #[.int .u8 (ee : Int)] 5 (0, 0))) (hee : ee < 256) (hkl : kk ≤ l.length) (hd : ab ≠ g ∧ kb ≠ g ∧ eb ≠ g ∧ eb ≠ ab) (hv : ∀ i, i < l.length → (adr v i).block ≠ ab) (hR : Rdr w g v l 0) :
    Calls Try.prog 30 (#[.pointer (some ⟨g, 0, none⟩)] ++ #[.pointer (some ⟨kb, 0, none⟩), .pointer (some ⟨ab, 0, none⟩), .pointer (some ⟨eb, 0, none⟩), .pointer (some ⟨bb, 0, none⟩)]) w fun e w' =>
      Only (fun j => j = g ∨ j = ab) w w' ∧ w'.heap[ab]? = some (.cells #[.bool true] 4 (0, 0)) ∧ Went g v l kk (1 + ee % 17) e w' := by
  obtain ⟨d1, d2, d3, d4⟩ := hd
  have hsm := hR.rd.small
  have k0 := cell_of_one hk
  have HK := Lib.hid hk
  have HA := Lib.hid ha
  have HE := Lib.hid he
  clear hk ha he
  go_enter Try.func30, Try.ntmps30
  go_wp2
  go_loopw [7] (fun i wr => ∃ j : Nat, j ≤ kk ∧ i = .int .i64 j ∧ Hid (Rdr wr g v l j) ∧ Hid (Only (fun j => j = g) w wr)) (fun i _ => kk - (intOf i).toNat)
  case atStart => exact ⟨0, by omega, rfl, Lib.hid hR, Lib.hid (Only.refl _ _)⟩
  case round =>
    obtain ⟨j, hj, rfl, HR, HO⟩ := hrel
    by_cases hlt : j < kk
    · go_wp2_with fail
      refine (reader_Byte _ _ _ _ _ HR.out).mono ?_
      rintro e w1 h
      obtain ⟨rfl, hg1, hR1⟩ := h.ok (if_pos (by omega))
      rw [if_pos (by omega : j < l.length)] at hR1
      have HR1 := Lib.hid hR1
      clear h hR1
      go_wp2
      go_roundw
      case rel => exact ⟨j + 1, by omega, by go_num, HR1, Lib.hid (HO.out.grown hg1 rfl)⟩
      case measure => simp [intOf]; omega
    · obtain rfl : j = kk := by omega
      go_wp2_with fail
      refine (reader_Must _ _ _ _ _ HR.out true 10).mono ?_
      rintro e w1 h
      obtain ⟨rfl, hg1, hR1⟩ := h.ok rfl
      clear h
      go_wp2_with fail
      refine (reader_Must _ _ _ _ _ hR1 false 0).mono ?_
      rintro e w2 h
      obtain ⟨rfl, hg2, hR2⟩ := h.ok rfl
      clear h
      have hO2 := (HO.out.grown hg1 rfl).grown hg2 rfl
      have ha2 := hO2.keep HA.out (by exact d1)
      have he2 := hO2.keep HE.out (by exact d3)
      have a0 := cell_of_one ha2
      have a1 := free_of_one ha2
      have e0 := cell_of_one he2
      have hR3 := hR2.setVar (p := ⟨ab, 0, none⟩) d1 hv (.bool true)
      have hA3 := Lib.hid (one_setCell (u := .bool true) ha2)
      have hO3 := Lib.hid ((hO2.mono (T := fun j => j = g ∨ j = ab) (fun j h => .inl h)).setCell (p := ⟨ab, 0, none⟩) (.inr rfl) (.bool true))
      obtain ⟨m, hm0⟩ : ∃ m, m = 1 + ee % 17 := ⟨_, rfl⟩
      have hm : (1 + (ee : Int) % 17) = (m : Int) := by omega
      have hm1 : m < 256 := by omega
      have hm2 : m ≠ 0 := by omega
      have HM := Lib.hid hm0
      clear hm0
      clear hO2 ha2 he2 hR1 hR2 HK HA HE HO HR hg1 hg2
      go_wp2_with fail
      refine (reader_Must _ _ _ _ _ hR3 false m).mono ?_
      rintro e w4 h
      obtain ⟨rfl, hg4, hE4⟩ := h.no (by simpa using hm2)
      have h1 := hO3.out.grown hg4 (.inl rfl)
      have h2 := hg4.keep hA3.out d1
      clear h hO3 hA3 hR3 hg4
      go_wp2
      rw [← HM.out]
      exact ⟨rfl, h1, h2, .inr ⟨hm2, rfl, hE4⟩⟩

theorem enters_must1 (args : Array Value) (u : World) : (callFunc 30 args).run Try.prog u = .ok (.enter 30 args) u := enters_fn Try.func30 (by kernel_rfl) rfl args u

set_option maxHeartbeats 1000000 in
set_option maxRecDepth 20000 in
theorem readerMust_walk (v : Value) (l : List UInt8) (a1 a2 : Int) (w : World) (h : Rd w v l) (hn : 0 ≤ a1 ∧ a1 ≤ 255) (he : 0 ≤ a2 ∧ a2 ≤ 255) :
    Calls Try.prog 7 #[v, .int .u8 a1, .int .u8 a2] w fun e w' => e = .returned (.bool true) ∧ Below w.heap.size w w' := by
  have hmf : ∀ (fn : Fn) (first cap : Array Value) (w : World), (Instr.makeFunc fn first cap).run Try.prog w = .ok (.func fn first cap) w := fun _ _ _ _ => rfl
  obtain ⟨n, rfl⟩ := Int.eq_ofNat_of_zero_le hn.1
  obtain ⟨ee, rfl⟩ := Int.eq_ofNat_of_zero_le he.1
  have hn2 : n < 256 := by omega
  have he2 : ee < 256 := by omega
  have hlen := h.len
  have hbl : ∀ i, i < l.length → (adr v i).block < w.heap.size := fun i hi => h.block hi
  clear hn he
  by_cases h200 : 200 < l.length
  · go_enter Try.func7, Try.ntmps7
    go_wp2_with fail
    refine (law03_alive _).mono ?_
    rintro e w1 ⟨rfl, hb1⟩
    go_wp2_with fail
    refine (law03_alive _).mono ?_
    rintro e w2 ⟨rfl, hb2⟩
    go_wp2
    go_ret
    exact ⟨rfl, (((Below.refl _ w).alloc (Nat.le_refl _) _).trans (hb1.mono (by simp))).trans (hb2.mono (by have := hb1.size; simp at this; omega))⟩
  · go_enter Try.func7, Try.ntmps7
    go_wp2_with fail
    refine (law03_alive _).mono ?_
    rintro e w1 ⟨rfl, hb1⟩
    obtain ⟨kk, hkk⟩ : ∃ kk, kk = min n l.length := ⟨_, rfl⟩
    have hmin : min (n : Int) (l.length : Int) = (kk : Int) := by omega
    have hkl : kk ≤ l.length := by omega
    clear hkk
    go_wp2_with fail
    obtain ⟨hs2, hK, hB, hA, hb2⟩ := new3 w1 (.cells #[.int .i64 (kk : Int)] 3) (.cells #[.bool false] 4) (.cells #[.bool false] 4)
    generalize hw2 : ((w1.alloc (.cells #[.int .i64 (kk : Int)] 3)).alloc (.cells #[.bool false] 4)).alloc (.cells #[.bool false] 4) = w2 at hs2 hK hB hA hb2 ⊢
    clear hw2
    have hs1 := hb1.size
    simp only [World.alloc, Array.size_push] at hs1
    have hE1 : w1.heap[w.heap.size]? = some (.cells #[.int .u8 (ee : Int)] 5 (0, 0)) := (hb1.block _ (by simp)).trans (heap_alloc_new _ _)
    have hE := (hb2.block _ (by omega)).trans hE1
    have hbw : Below w.heap.size w w2 := (((Below.refl _ w).alloc (Nat.le_refl _) _).trans (hb1.mono (by simp))).trans (hb2.mono (by omega))
    have h2 := h.later hbw (Nat.le_refl _)
    refine (reader_Run 30 enters_must1 _ _ _ _ h2 (fun g k x a => k = kk ∧ x = 1 + ee % 17 ∧ Only (fun j => j = w1.heap.size + 2 ∨ w2.heap.size ≤ j) w2 a ∧ a.heap[w1.heap.size + 2]? = some (.cells #[.bool true] 4 (0, 0))) ?hP ?hf).mono ?_
    case hP =>
      rintro g k x a b ⟨rfl, rfl, ha, hc⟩ hbb
      exact ⟨rfl, rfl, ha.trans ⟨hbb.os, hbb.tape, hbb.output, hbb.size, fun j h1 h2 => hbb.block j (by omega)⟩, (hbb.block _ (by omega)).trans hc⟩
    case hf =>
      intro g w3 hg hb3 hR
      refine (must1 w1.heap.size (w1.heap.size + 2) w.heap.size (w1.heap.size + 1) g kk ee _ _ w3 ((hb3.block _ (by omega)).trans hK) ((hb3.block _ (by omega)).trans hA) ((hb3.block _ (by omega)).trans hE) he2 (by omega) (by omega) (fun i hi => by have := hbl i hi; omega) hR).mono ?_
      rintro e w4 ⟨hO, hA4, hW⟩
      exact ⟨kk, 1 + ee % 17, hO.kept (fun j hj => by omega), ⟨rfl, rfl, ((Only.refl _ _).below hb3 (Nat.le_refl _)).trans (hO.mono (fun j hj => by omega)), hA4⟩, hW⟩
    rintro e w5 ⟨g, k, x, hk, hg, ⟨rfl, rfl, hO, hA5⟩, hsh, rfl⟩
    have hK5 := hO.keep hK (by omega)
    have hB5 := hO.keep hB (by omega)
    have hE5 := hO.keep hE (by omega)
    have hbz := Lib.hid (hbw.trans (hO.toBelow (B := w.heap.size) (fun j hj => by omega) (by omega)))
    have k0 := cell_of_one hK5
    have b0 := cell_of_one hB5
    have e0 := cell_of_one hE5
    have a0 := cell_of_one hA5
    have htl : told l k (1 + ee % 17) = 1 + ee % 17 := if_neg (by omega)
    rw [htl]
    obtain ⟨m, hm0⟩ : ∃ m, m = 1 + ee % 17 := ⟨_, rfl⟩
    have hm : (1 + (ee : Int) % 17) = (m : Int) := by omega
    have hm1 : m < 256 := by omega
    rw [← hm0]
    clear hO hK5 hB5 hE5 hA5 hK hA hB hE hE1 hsh hb1 hb2 hbw h2 hm0 htl hbl
    go_wp2
    go_ret
    exact ⟨rfl, hbz.out⟩

end Go.Proofs.Ytojjfocnkdijpaa
