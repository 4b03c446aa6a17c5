/-
  Layer 15: the example; are acts more than are looked at?
-/
import Derived.Test.YtegaamebcoockaaDisk
import Derived.Test.YtegaamebcoockaaDskActs
import Derived.Lib.SlBytesConst
set_option linter.unusedVariables false
set_option linter.unusedSimpArgs false
set_option maxRecDepth 1000000
namespace Go.Proofs.Ytegaamebcoockaa
open Go.RowKit

theorem rd_one15 (w : World) (l : List UInt8) (h : l.length ≤ 100) : Rd (w.alloc (.cells (cellsB l).toArray 5 (l.length, l.length + 1))) (.slice (some ⟨w.heap.size, 0, none⟩) l.length l.length) l ∧ Below w.heap.size w (w.alloc (.cells (cellsB l).toArray 5 (l.length, l.length + 1))) ∧
    ∀ Q : Nat → Prop, (∀ j, Q j → j < w.heap.size) → OffB (w.alloc (.cells (cellsB l).toArray 5 (l.length, l.length + 1))) (.slice (some ⟨w.heap.size, 0, none⟩) l.length l.length) l Q := by
  have hr := rd_lit w l (by omega) (l.length, l.length + 1)
  refine ⟨hr, (Below.refl _ _).alloc (Nat.le_refl _) _, fun Q hQ => ⟨hr, fun i hi hq => ?_⟩⟩
  have e : (adr (.slice (some ⟨w.heap.size, 0, none⟩) l.length l.length) i).block = w.heap.size := by simp only [adr, Addr.add]; split <;> simp_all
  rw [e] at hq
  have := hQ _ hq
  omega

set_option maxHeartbeats 4000000 in
theorem law15_alive (w : World) : Calls Try.prog 8 #[] w fun e w' => e = .returned (.bool true) ∧ Below w.heap.size w w' := by
  obtain ⟨R1, B1, _⟩ := rd_one15 w [97, 98, 99] (by decide)
  have NW := Lib.hid (disk_New _ _ _ R1 (by decide))
  have hcv := Lib.run_convert_bytes_const (P := Try.prog) w 22 5 #[.int .u8 97, .int .u8 98, .int .u8 99] 3 3 Try.underlying22 Try.underlying5
  clear R1
  have HB1 := Lib.hid B1
  clear B1
  go_enter Try.func8, Try.ntmps8
  go_wp2_with fail
  refine NW.out.mono ?_
  rintro e w2 ⟨g, v, rfl, hd, hb⟩
  have HB2 := Lib.hid (HB1.out.trans (hb.mono HB1.out.size))
  have hd := Lib.hid (hd.base_le15 HB1.out.size)
  obtain ⟨R2, B2, _⟩ := rd_one15 w2 [100, 101, 102] (by decide)
  have AP := Lib.hid (disk_Append w.heap.size g v [97, 98, 99] 3 0 _ _ _ (hd.out.later B2) R2 (by decide))
  have HB3 := Lib.hid (HB2.out.trans (B2.mono HB2.out.size))
  have HD3 := Lib.hid (hd.out.later B2)
  clear R2 B2 hb NW HB1 hd HB2 hcv
  have hcv := Lib.run_convert_bytes_const (P := Try.prog) w2 22 5 #[.int .u8 100, .int .u8 101, .int .u8 102] 3 3 Try.underlying22 Try.underlying5
  go_wp2_with fail
  refine AP.out.mono ?_
  rintro e w4 ⟨rfl, v4, hd, hO, _⟩
  have HB4 := Lib.hid (HB3.out.trans (HD3.out.below hO))
  have HD4 := Lib.hid (show Dsk w4 w.heap.size g v4 [97, 98, 99, 100, 101, 102] 3 0 from hd)
  have SA := Lib.hid (disk_Safe _ _ _ _ _ _ _ hd)
  clear hd hO AP HB3 HD3 hcv
  go_wp2_with fail
  refine SA.out.mono ?_
  rintro e w9 ⟨rfl, h9⟩
  rw [h9]
  clear h9 w9
  obtain ⟨R5, B5, O5⟩ := rd_one15 w4 [120, 121] (by decide)
  have HD5 := Lib.hid (HD4.out.later B5)
  have HB5 := Lib.hid (HB4.out.trans (B5.mono HB4.out.size))
  have CR := Lib.hid (disk_Crash w.heap.size g v4 [97, 98, 99, 100, 101, 102] 3 0 1 _ [120, 121] _ HD5.out (O5 _ fun j hj => (HD4.out.q hj).2) (by decide) (by decide))
  clear R5 B5 O5 SA HB4 HD4
  have hcv := Lib.run_convert_bytes_const (P := Try.prog) w4 22 5 #[.int .u8 120, .int .u8 121] 2 2 Try.underlying22 Try.underlying5
  go_wp2_with fail
  refine CR.out.mono ?_
  rintro e w6 ⟨rfl, v6, hd, hO, _⟩
  have HB6 := Lib.hid (HB5.out.trans (HD5.out.below hO))
  have HD6 := Lib.hid (show Dsk w6 w.heap.size g v6 [97, 98, 99, 100, 120, 121] 6 1 from hd)
  have BY := Lib.hid (disk_Bytes _ _ _ _ _ _ _ HD6.out)
  have hE : crE ([97, 98, 99, 100, 101, 102].length - 3) 1 [120, 121].length = 0 := by decide
  rw [show (([97, 98, 99, 100, 101, 102] : List UInt8).length - 3) = 3 from rfl, show (([120, 121] : List UInt8).length) = 2 from rfl, show crE 3 1 2 = 0 from by decide]
  clear hd hO CR HB5 HD5 hE hcv
  go_wp2_with fail
  refine BY.out.mono ?_
  rintro e w7 ⟨v7, rfl, ho, hb⟩
  obtain ⟨a7, n7, rfl⟩ : ∃ a n, v7 = .slice a 6 n := by
    obtain ⟨a, n, h, _⟩ := ho.tor.lit
    exact ⟨a, n, h⟩
  have hst := (ho.rd (by decide)).str
  have HB7 := Lib.hid (HB6.out.trans (hb.mono HB6.out.size))
  have SA := Lib.hid (disk_Safe _ _ _ _ _ _ _ (HD6.out.later hb))
  clear ho hb BY HB6 HD6
  go_wp2_with fail
  refine SA.out.mono ?_
  rintro e w9 ⟨rfl, h9⟩
  rw [h9]
  clear h9 w9
  go_wp2
  go_ret
  exact ⟨rfl, HB7.out⟩

/-- All the bytes of the calls. -/
def datas (ts : List ActD) : Nat := (ts.map fun t => t.2.2.2.length).sum
theorem datas_take {ts : List ActD} {k : Nat} (hk : k < ts.length) : datas (ts.take (k + 1)) = datas (ts.take k) + ts[k].2.2.2.length := by
  unfold datas
  rw [List.take_add_one, List.map_append, List.sum_append]
  simp [hk]
theorem datas_one {ts : List ActD} {k : Nat} (hk : k < ts.length) : datas (ts.take k) + ts[k].2.2.2.length ≤ datas ts := by
  rw [← datas_take hk]
  unfold datas
  conv => rhs; rw [← List.take_append_drop (k + 1) ts]
  rw [List.map_append, List.sum_append]
  omega

set_option maxHeartbeats 4000000 in
theorem law15_great (v : Value) (ts : List ActD) (w : World) (h : RdD w v ts) :
    Calls Try.prog 9 #[v] w fun e w' => Below w.heap.size w w' ∧ e = .returned (.bool (decide (200 < ts.length ∨ 5000 < datas ts))) := by
  obtain ⟨ao, cap, rfl⟩ := h.lit
  have hlen := h.len
  have hsm := h.small
  have HD := Lib.hid h
  obtain ⟨n, hn⟩ : ∃ n, n = ts.length := ⟨_, rfl⟩
  rw [← hn] at hlen hsm ⊢
  have HN := Lib.hid hn
  obtain ⟨D, hD⟩ : ∃ D, D = decide (200 < n ∨ 5000 < datas ts) := ⟨_, rfl⟩
  rw [← hD]
  have HDD := Lib.hid hD
  clear h hn hD
  go_enter Try.func9, Try.ntmps9
  go_wp2
  go_loopw [3, 8] (fun x i wr => ∃ (k : Nat) (y : Int), k ≤ n ∧ i = .int .i64 k ∧ x = .int .i64 y ∧ Hid (k ≤ 200 → y = (datas (ts.take k) : Nat) ∧ datas (ts.take k) ≤ k * 140737488351232) ∧ Hid (Below w.heap.size w wr)) (fun _ i _ => n - (intOf i).toNat)
  case atStart => exact ⟨0, 0, by omega, rfl, rfl, Lib.hid (fun _ => by simp [datas]), Lib.hid (Below.refl _ _)⟩
  case round =>
    obtain ⟨k, y, hk, rfl, rfl, HY, HB⟩ := hrel
    by_cases hlt : k < n
    · have hkt : k < ts.length := by rw [← HN.out]; exact hlt
      have hDw := HD.out.later HB.out
      obtain ⟨b, o, hidx, e0, e1, e2, _⟩ := hDw.get hkt
      rw [← HN.out] at hidx
      have hrd := (hDw.each _ (List.getElem_mem hkt)).1
      have hst := datas_take hkt
      obtain ⟨t, ht⟩ : ∃ t, t = ts[k] := ⟨_, rfl⟩
      rw [← ht] at e0 e1 e2 hrd hst
      obtain ⟨tv, t0, t1, tl⟩ := t
      dsimp only at e0 e1 e2 hrd hst
      obtain ⟨ta, tc, rfl, _⟩ := hrd.shape
      have htl := hrd.len
      have hts := hrd.small
      obtain ⟨m, hm⟩ : ∃ m, m = tl.length := ⟨_, rfl⟩
      rw [← hm] at htl hts hst e2
      have HM := Lib.hid (And.intro hst hts)
      have HB2 := Lib.hid (HB.out.alloc HB.out.size (.cells #[.int .i64 t0, .int .i64 t1, .slice ta m tc] 32))
      clear hkt hDw hrd hst ht hm HD
      by_cases h2 : k < 200
      · obtain ⟨rfl, h4⟩ := HY.out (by omega)
        obtain ⟨d, hd⟩ : ∃ d, d = datas (ts.take k) := ⟨_, rfl⟩
        rw [← hd] at h4 HM
        rw [← hd]
        have h5 : d ≤ 28147497670246400 := by omega
        have H4 := Lib.hid h4
        clear HY hd h4
        go_wp2
        go_roundw
        case rel => exact ⟨k + 1, _, by omega, by go_num, rfl, Lib.hid (fun _ => ⟨by rw [HM.out.1]; push_cast; rfl, by rw [HM.out.1]; have := HM.out.2; have := H4.out; omega⟩), HB2⟩
        case measure => simp [intOf]; omega
      · clear HY
        go_wp2
        go_roundw
        case rel => exact ⟨k + 1, _, by omega, by go_num, rfl, Lib.hid (fun h => absurd h (by omega)), HB2⟩
        case measure => simp [intOf]; omega
    · obtain rfl : k = n := by omega
      by_cases h2 : 200 < k
      · have hq : true = D := by rw [HDD.out]; exact (decide_eq_true (.inl h2)).symm
        have d1 : decide ((k : Int) > 200) = true := decide_eq_true (by omega)
        subst hq
        go_wp2
        go_ret
        exact ⟨HB.out, rfl⟩
      · obtain ⟨rfl, h4⟩ := HY.out (by omega)
        have ht : ts.take k = ts := by rw [HN.out, List.take_length]
        rw [ht] at h4 ⊢
        have h5 : datas ts ≤ 28147497670246400 := by omega
        have d1 : decide ((k : Int) > 200) = false := decide_eq_false (by omega)
        have hq : decide ((datas ts : Int) > 5000) = D := by
          rw [HDD.out]
          refine decide_eq_decide.2 ⟨fun h => .inr (by omega), fun h => ?_⟩
          rcases h with h | h
          · exact absurd h h2
          · omega
        have HQ := Lib.hid hq
        obtain ⟨d, hd⟩ : ∃ d, d = datas ts := ⟨_, rfl⟩
        rw [← hd] at h5 HQ ⊢
        clear hq h4 HY HDD hd ht
        go_wp2
        go_ret
        exact ⟨HB.out, by rw [← HQ.out]; rfl⟩

end Go.Proofs.Ytegaamebcoockaa
