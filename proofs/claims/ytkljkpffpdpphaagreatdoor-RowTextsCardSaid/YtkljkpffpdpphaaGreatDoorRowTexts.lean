/-
  RowTexts: the law's own walk.
-/
import Derived.Test.YtkljkpffpdpphaaGreatDoorGAlive
import Derived.Test.YtkljkpffpdpphaaGreatDoorRowRefText
import Derived.Test.YtkljkpffpdpphaaGreatDoorRowRefRead
set_option linter.unusedVariables false
set_option linter.unusedSimpArgs false
set_option maxRecDepth 1000000
namespace Go.Proofs.YtkljkpffpdpphaaGreatDoor
open Go.RowKit Go.Shelf

theorem rowC_len {cs : List ColB} {l : List UInt8} (h : cs.length ≤ 30) : (rowC cs l).length ≤ 140737488351232 := by
  by_cases h0 : rowE cs l = 0
  · rw [(row_one h0).2.2]; omega
  · rw [rowC_none h0]; simp

set_option maxHeartbeats 8000000 in
theorem rowTexts_walk (v1 : Value) (cs : List ColB) (v2 : Value) (r : List CellB) (s : ByteArray) (l : List UInt8) (w : World) (hR1 : RdC w v1 cs) (hC : CS cs) (hR2 : RdE w v2 r) (hE : CES r) (hs : RdS s l) (hT : Tabs w) (hL : Lib4 w) (hX : Mx w) :
    Calls Tryz.prog 4 #[v1, v2, .string s] w fun e w' => e = .returned (.bool true) ∧ Below w.heap.size w w' := by
  have hl1 := hR1.len
  have hsm1 := hR1.small
  have hls := hs.len
  have R1 := Lib.hid (fun wz (hz : Below w.heap.size w wz) => hR1.later hz (Nat.le_refl _))
  have R2 := Lib.hid (fun wz (hz : Below w.heap.size w wz) => hR2.later hz (Nat.le_refl _))
  have AL := Lib.hid (fun wz (hz : Below w.heap.size w wz) => law06_alive wz (hL.later hz) (hX.later hz))
  have GR := Lib.hid (fun wz (hz : Below w.heap.size w wz) => great_one v2 r wz (fun wy hy => R2.out wy (hz.trans (hy.mono hz.size))))
  obtain ⟨x, hx⟩ : ∃ x, x = errRow cs r := ⟨_, rfl⟩
  obtain ⟨y, hy⟩ : ∃ y : Int, y = (rowE cs l : Nat) := ⟨_, rfl⟩
  obtain ⟨n, hn⟩ : ∃ n, n = cs.length := ⟨_, rfl⟩
  obtain ⟨m, hm⟩ : ∃ m, m = l.length := ⟨_, rfl⟩
  have C1 := Lib.hid (fun wz (h : Below w.heap.size w wz) => (show Calls Tryz.prog 18 #[v1, v2] wz fun e w' => ∃ t, e = .returned (.tuple #[.string t, .int .i64 (x : Int)]) ∧ Below wz.heap.size wz w' ∧ Hid ((x ≠ 0 ∧ t = ⟨#[]⟩) ∨ (x = 0 ∧ t = ⟨(textR cs r).toArray⟩)) from by
    refine (row_Text v1 v2 cs r wz (R1.out wz h) (R2.out wz h) hC hE (hL.l3.later h)).mono ?_
    rintro e w' ⟨t, rfl, hb, hh⟩
    rw [hx]
    exact ⟨t, rfl, hb, Lib.hid (hh.imp id (fun h => ⟨h.1, h.2.eq⟩))⟩))
  have C2 := Lib.hid (fun wz (h : Below w.heap.size w wz) (hm3 : m ≤ 3000) => (show Calls Tryz.prog 19 #[v1, .string s] wz fun e w' => ∃ tv, e = .returned (.tuple #[tv, .int .i64 y]) ∧ Below wz.heap.size wz w' ∧ RdE w' tv (rowC cs l) from by
    rw [hy]
    exact row_Read v1 s cs l wz (R1.out wz h) hs hC (by omega) (hL.later h) (hX.later h)))
  have C3 := Lib.hid (fun wz (h : Below w.heap.size w wz) (hm3 : m ≤ 3000) => (show Calls Tryz.prog 20 #[v1, .string s] wz fun e w' => ∃ tv, e = .returned (.tuple #[tv, .int .i64 y]) ∧ Below wz.heap.size wz w' ∧ RdE w' tv (rowC cs l) from by
    rw [hy]
    exact ref_Read06 v1 s cs l wz (R1.out wz h) hs hC (by omega)))
  have C4 := Lib.hid (fun wz u v (hu : RdE wz u (rowC cs l)) (hv : RdE wz v (rowC cs l)) => (show Calls Tryz.prog 17 #[u, v] wz fun e w' => e = .returned (.bool true) ∧ Below wz.heap.size wz w' from by
    have := ref_Same06 u v _ _ wz hu hv; rwa [decide_eq_true rfl] at this))
  have C5 := Lib.hid (fun wz (h : Below w.heap.size w wz) => (show Calls Tryz.prog 11 #[v1, v2] wz fun e w' => e = .returned (.int .i64 (x : Int)) ∧ Below wz.heap.size wz w' from by
    rw [hx]; exact ref_Check06 v1 v2 cs r wz (R1.out wz h) (R2.out wz h) hC hE))
  have C6 := Lib.hid (fun wz (h : Below w.heap.size w wz) (h0 : x = 0) => (show Calls Tryz.prog 21 #[v1, v2] wz fun e w' => (∃ t, e = .returned (.string t) ∧ t = ⟨(textR cs r).toArray⟩) ∧ Below wz.heap.size wz w' from by
    refine (ref_Text06 v1 v2 cs r wz (R1.out wz h) (R2.out wz h) hC hE (by omega)).mono ?_
    rintro e w' ⟨⟨t, rfl, ht⟩, hb⟩
    exact ⟨⟨t, rfl, ht.eq⟩, hb⟩))
  rw [← hn] at hl1 hsm1
  rw [← hm] at hls
  obtain ⟨ao2, cap2, hv2, _⟩ := RdG.shape hR2
  generalize (r.map cellVs).length = n2 at hv2
  subst hv2
  clear hR1 hR2 hL hX hT hx hy hn hm hs
  go_enter Tryz.func4, Tryz.ntmps4
  go_wp2_with fail
  refine (AL.out w (Below.refl _ _)).mono ?_
  rintro e w1 ⟨rfl, hb⟩
  have HB1 := Lib.hid hb
  clear hb
  go_wp2_with fail
  refine (GR.out w1 HB1.out).mono ?_
  rintro e w2 ⟨g1, rfl, hb⟩
  have HB2 := Lib.hid (HB1.out.trans (hb.mono HB1.out.size))
  clear hb
  by_cases hbig : g1 = true ∨ 30 < n ∨ 3000 < m
  · by_cases hg : g1 = true
    · subst hg
      clear hbig
      go_wp2_with fail
      refine (AL.out w2 HB2.out).mono ?_
      rintro e w3 ⟨rfl, hb⟩
      have HB3 := Lib.hid (HB2.out.trans (hb.mono HB2.out.size))
      clear hb
      go_wp2
      go_ret
      exact ⟨rfl, HB3.out⟩
    · obtain rfl : g1 = false := by simpa using hg
      by_cases hn3 : 30 < n
      · have d30 : decide ((n : Int) > 30) = true := decide_eq_true (by omega)
        clear hbig hg
        go_wp2_with fail
        refine (AL.out w2 HB2.out).mono ?_
        rintro e w3 ⟨rfl, hb⟩
        have HB3 := Lib.hid (HB2.out.trans (hb.mono HB2.out.size))
        clear hb
        go_wp2
        go_ret
        exact ⟨rfl, HB3.out⟩
      · have d30 : decide ((n : Int) > 30) = false := decide_eq_false (by omega)
        have d31 : decide ((m : Int) > 3000) = true := decide_eq_true (by rcases hbig with h | h | h; exact absurd h hg; omega; omega)
        clear hbig hg
        go_wp2_with fail
        refine (AL.out w2 HB2.out).mono ?_
        rintro e w3 ⟨rfl, hb⟩
        have HB3 := Lib.hid (HB2.out.trans (hb.mono HB2.out.size))
        clear hb
        go_wp2
        go_ret
        exact ⟨rfl, HB3.out⟩
  · obtain rfl : g1 = false := by cases g1; rfl; exact absurd (.inl rfl) hbig
    have hn30 : n ≤ 30 := by
      by_cases h : 30 < n
      · exact absurd (.inr (.inl h)) hbig
      · omega
    have hm3 : m ≤ 3000 := by
      by_cases h : 3000 < m
      · exact absurd (.inr (.inr h)) hbig
      · omega
    have d30 : decide ((n : Int) > 30) = false := decide_eq_false (by omega)
    have d31 : decide ((m : Int) > 3000) = false := decide_eq_false (by omega)
    clear hbig
    go_wp2_with fail
    refine (C1.out w2 HB2.out).mono ?_
    rintro e w3 ⟨t, rfl, hb, HTX⟩
    have HB3 := Lib.hid (HB2.out.trans (hb.mono HB2.out.size))
    clear hb
    go_wp2_with fail
    refine (C2.out w3 HB3.out hm3).mono ?_
    rintro e w4 ⟨u, rfl, hb, hu⟩
    have HB4 := Lib.hid (HB3.out.trans (hb.mono HB3.out.size))
    have HU4 := Lib.hid hu
    clear hb hu
    go_wp2_with fail
    refine (C3.out w4 HB4.out hm3).mono ?_
    rintro e w5 ⟨v, rfl, hb, hu⟩
    have HB5 := Lib.hid (HB4.out.trans (hb.mono HB4.out.size))
    have HU5 := Lib.hid (HU4.out.later hb (Nat.le_refl _))
    have HV5 := Lib.hid hu
    clear hb hu HU4
    go_wp2_with fail
    refine (C4.out w5 u v HU5.out HV5.out).mono ?_
    rintro e w6 ⟨rfl, hb⟩
    have HB6 := Lib.hid (HB5.out.trans (hb.mono HB5.out.size))
    clear hb HU5 HV5
    go_wp2_with fail
    refine (C5.out w6 HB6.out).mono ?_
    rintro e w7 ⟨rfl, hb⟩
    have HB7 := Lib.hid (HB6.out.trans (hb.mono HB6.out.size))
    clear hb
    by_cases h0 : x = 0
    · have C6' := Lib.hid (C6.out w7 HB7.out h0)
      have HT2 := Lib.hid (show t = ⟨(textR cs r).toArray⟩ from by
        rcases HTX.out with ⟨h, _⟩ | ⟨_, h⟩
        · exact absurd h0 h
        · exact h)
      subst h0
      clear C6 HTX
      go_wp2_with fail
      refine C6'.out.mono ?_
      rintro e w8 ⟨⟨t2, rfl, ht2⟩, hb⟩
      have HB8 := Lib.hid (HB7.out.trans (hb.mono HB7.out.size))
      obtain rfl : t2 = t := by rw [ht2, HT2.out]
      clear hb ht2
      go_wp2
      go_ret
      exact ⟨rfl, HB8.out⟩
    · have q : ((x : Int) != 0) = true := by rw [bne_iff_ne]; omega
      obtain rfl : t = ⟨#[]⟩ := by
        rcases HTX.out with ⟨_, h⟩ | ⟨h, _⟩
        · exact h
        · exact absurd h h0
      clear HTX C6
      go_wp2
      go_ret
      exact ⟨rfl, HB7.out⟩
end Go.Proofs.YtkljkpffpdpphaaGreatDoor
