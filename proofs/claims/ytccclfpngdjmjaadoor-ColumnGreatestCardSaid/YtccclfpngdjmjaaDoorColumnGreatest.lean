/-
  ColumnGreatest: the law's own walk.
-/
import Derived.Test.YtccclfpngdjmjaaDoorColumnOne
set_option linter.unusedVariables false
set_option linter.unusedSimpArgs false
set_option maxRecDepth 1000000
namespace Go.Proofs.YtccclfpngdjmjaaDoor
open Go.RowKit Go.Shelf

theorem text_fit {l : List UInt8} (h : l.length ≤ 256) : Fit 3 (0, l) := ⟨checkC_text (.inl rfl) h (fun h4 => absurd h4 (by decide)), by show (0 : Nat) < 18446744073709551616; decide⟩

set_option maxHeartbeats 8000000 in
theorem columnGreatest_walk (s : ByteArray) (l : List UInt8) (t : ByteArray) (m : List UInt8) (w : World) (hs : RdS s l) (ht : RdS t m) (hT : Tabs w) :
    Calls Tryd.prog 10 #[.string s, .string t] w fun e w' => e = .returned (.bool true) ∧ Below w.heap.size w w' := by
  have hl1 := hs.len
  have hl2 := ht.len
  have HS := Lib.hid hs
  have HS2 := Lib.hid ht
  have HT := Lib.hid hT
  have hss := hs.small
  have hst := ht.small
  have hz1 : s.data.toList = l := by rw [hs.eq]
  have hz2 : t.data.toList = m := by rw [ht.eq]
  have HZ1 := Lib.hid hz1
  have HZ2 := Lib.hid hz2
  have hsz := ht.size9
  clear hs ht hT hz1 hz2
  by_cases hgo : l.length ≤ 200 ∧ m.length ≤ 200
  · obtain ⟨g1, g2⟩ := hgo
    have d1 : decide ((200 : Int) < (l.length : Int)) = false := decide_eq_false (by omega)
    have d2 : decide ((200 : Int) < (m.length : Int)) = false := decide_eq_false (by omega)
    have HS1z := Lib.hid HS.out.size9
    have hces : CES [(0, s), (0, t)] := by
      intro c hc
      simp only [List.mem_cons, List.not_mem_nil, or_false] at hc
      have h1 := HS.out.size9
      rcases hc with rfl | rfl
      · exact ⟨by show (0 : Nat) < _; decide, by dsimp only; omega⟩
      · exact ⟨by show (0 : Nat) < _; decide, by dsimp only; omega⟩
    have hces1 : CES [(0, s)] := fun c hc => hces c (by rw [List.mem_singleton.1 hc]; simp)
    have hcx : cesL [(0, s), (0, t)] = [(0, l), (0, m)] := by unfold cesL ceL; simp [HZ1.out, HZ2.out]
    have hcy : cesL [(0, s)] = [(0, l)] := by unfold cesL ceL; simp [HZ1.out]
    obtain ⟨A, hA⟩ : ∃ A, A = encU (shr [] l) ++ encB (l.drop (shr [] l)) := ⟨_, rfl⟩
    obtain ⟨N, hN⟩ : ∃ N, N = shr l m := ⟨_, rfl⟩
    have hNl := (shr_le l m).1
    have hNm := (shr_le l m).2
    rw [← hN] at hNl hNm
    have hX0 : wrE 3 (cesL [(0, s), (0, t)]) = 0 := by
      rw [hcx]
      refine fit_wrE (by decide) (fun c hc => ?_)
      simp only [List.mem_cons, List.not_mem_nil, or_false] at hc
      rcases hc with rfl | rfl
      · exact text_fit (by omega)
      · exact text_fit (by omega)
    have hY0 : wrE 3 (cesL [(0, s)]) = 0 := by
      rw [hcy]
      refine fit_wrE (by decide) (fun c hc => ?_)
      rw [List.mem_singleton.1 hc]; exact text_fit (by omega)
    have hXe : wrC 3 (cesL [(0, s), (0, t)]) = A ++ (encU N ++ encB (m.drop N)) := by
      rw [hcx, wrC_texts (.inl rfl)]
      show txs [] [l, m] = _
      rw [txs, txs, txs, List.append_nil, ← hN, ← hA]
    have hYe : wrC 3 (cesL [(0, s)]) = A := by
      rw [hcy, wrC_texts (.inl rfl)]
      show txs [] [l] = _
      rw [txs, txs, List.append_nil, ← hA]
    obtain ⟨r, hr⟩ : ∃ r, r = m.drop N := ⟨_, rfl⟩
    rw [← hr] at hXe
    have hrl : r.length = m.length - N := by rw [hr, List.length_drop]
    have hAl : A.length ≤ 300 := by
      have h1 := encU_le (shr [] l) (by rw [shr_nil]; decide)
      have h2 := encU_le (l.drop (shr [] l)).length (by rw [List.length_drop]; omega)
      rw [hA, List.length_append, encB_length, List.length_drop] at *
      omega
    have hUl := encU_le N (by omega)
    have hVl := encU_le r.length (by omega)
    have hBl := encB_length r
    obtain ⟨X, hX⟩ : ∃ X, X = A ++ (encU N ++ encB r) := ⟨_, rfl⟩
    rw [← hX] at hXe
    have hXl : X.length = A.length + ((encU N).length + ((encU r.length).length + r.length)) := by rw [hX, List.length_append, List.length_append, hBl]
    have hXd : X.drop (X.length - r.length) = r := by
      have e : X = (A ++ (encU N ++ encU r.length)) ++ r := by rw [hX]; unfold encB; simp
      have e2 : X.length - r.length = (A ++ (encU N ++ encU r.length)).length := by rw [hXl]; simp; omega
      rw [e2, e, List.drop_left' rfl]
    have HXd := Lib.hid hXd
    have HXl := Lib.hid hXl
    have HX0 := Lib.hid hX0
    have HY0 := Lib.hid hY0
    have HXe := Lib.hid hXe
    have HYe := Lib.hid hYe
    have HNh := Lib.hid hN
    have HC2 := Lib.hid hces
    have HC1 := Lib.hid hces1
    have HRr := Lib.hid (show RdS (t.extract N t.size) r from by rw [hr]; exact HS2.out.dropS N)
    have hRdl := HRr.out.size9
    have hRlen := HRr.out.len
    obtain ⟨xl, hxl⟩ : ∃ xl, xl = X.length := ⟨_, rfl⟩
    obtain ⟨al, hal⟩ : ∃ al, al = A.length := ⟨_, rfl⟩
    obtain ⟨ul, hul⟩ : ∃ ul, ul = (encU N).length := ⟨_, rfl⟩
    obtain ⟨vl, hvl⟩ : ∃ vl, vl = (encU r.length).length := ⟨_, rfl⟩
    obtain ⟨rl, hrl2⟩ : ∃ rl, rl = r.length := ⟨_, rfl⟩
    have HXL := Lib.hid hxl
    have HAL := Lib.hid hal
    have HUL := Lib.hid hul
    have HVL := Lib.hid hvl
    have HRL := Lib.hid hrl2
    have hsum : xl = al + (ul + (vl + rl)) := by rw [hxl, hal, hul, hvl, hrl2]; exact hXl
    have ha1 : al ≤ 300 := by rw [hal]; exact hAl
    have hu1 : ul ≤ 10 := by rw [hul]; exact hUl
    have hv1 : vl ≤ 10 := by rw [hvl]; exact hVl
    have hr1 : rl ≤ 200 := by rw [hrl2, hrl]; omega
    have HSUM := Lib.hid hsum
    have hx1 : xl ≤ 600 := by omega
    have hxr : rl ≤ xl := by omega
    rw [← hrl2] at hRlen
    have q1 : ((xl : Int) == (al : Int) + (ul : Int) + (vl : Int) + (rl : Int)) = true := by rw [beq_iff_eq]; omega
    have dx : decide (rl ≤ xl) = true := decide_eq_true hxr
    have dx2 : decide ((xl : Int) ≥ (rl : Int)) = true := decide_eq_true (by omega)
    have dn1 : decide ((N : Int) < 0) = false := decide_eq_false (by omega)
    have dn2 : decide (m.length < N) = false := decide_eq_false (by omega)
    have dn3 : decide ((N : Int) > (m.length : Int)) = false := decide_eq_false (by omega)
    clear hA hN hX0 hY0 hXe hYe hX hXl hXd hces hces1 hcx hcy hr hrl hAl hUl hVl hBl hxl hal hul hvl hrl2 hsum hRdl
    go_enter Tryd.func10, Tryd.ntmps10
    have HB4 := Lib.hid (show Below w.heap.size w (w.alloc (.cells ([((0, s) : CellB), (0, t)].map cellVs).flatten.toArray 44)) from (Below.refl _ _).alloc (Nat.le_refl _) _)
    have HA := Lib.hid (column_Write 3 (.slice (some ⟨w.heap.size, 0, none⟩) 2 2) [(0, s), (0, t)] (w.alloc (.cells ([((0, s) : CellB), (0, t)].map cellVs).flatten.toArray 44)) ((ownE_built w w.heap.size (Nat.le_refl _) [(0, s), (0, t)] (by simp)).rd (by simp)) HC2.out (HT.out.later HB4.out) (fun h => by
      have := sumT_fit (wrE_fit h (fun c hc => ce_cases HC2.out hc)).2
      rw [cesL_length] at this
      simp at this ⊢; omega))
    go_wp2_with fail
    refine HA.out.mono ?_
    rintro e w5 ⟨av, rfl, hO, hb⟩
    rw [HX0.out]
    rw [HX0.out, if_pos rfl, HXe.out] at hO
    have HB5 := Lib.hid (HB4.out.trans (hb.mono HB4.out.size))
    have hRa := hO.rd (by rw [← HXL.out]; omega)
    have hxlen := hRa.len
    rw [← HXL.out] at hxlen
    have HRa := Lib.hid hRa
    clear hb hO HA HB4 hRa
    have HB6 := Lib.hid (show Below w.heap.size w (w5.alloc (.cells ([((0, s) : CellB)].map cellVs).flatten.toArray 44)) from HB5.out.alloc HB5.out.size _)
    have HRa6 := Lib.hid (HRa.out.alloc (.cells ([((0, s) : CellB)].map cellVs).flatten.toArray 44))
    have HA := Lib.hid (column_Write 3 (.slice (some ⟨w5.heap.size, 0, none⟩) 1 1) [(0, s)] (w5.alloc (.cells ([((0, s) : CellB)].map cellVs).flatten.toArray 44)) ((ownE_built w5 w.heap.size HB5.out.size [(0, s)] (by simp)).rd (by simp)) HC1.out (HT.out.later HB6.out) (fun h => by
      have := sumT_fit (wrE_fit h (fun c hc => ce_cases HC1.out hc)).2
      rw [cesL_length] at this
      simp at this ⊢; omega))
    go_wp2_with fail
    refine HA.out.mono ?_
    rintro e w7 ⟨bv, rfl, hO, hb⟩
    rw [HY0.out]
    rw [HY0.out, if_pos rfl, HYe.out] at hO
    have HB7 := Lib.hid (HB6.out.trans (hb.mono HB6.out.size))
    have hylen := (hO.rd (by rw [← HAL.out]; omega)).len
    rw [← HAL.out] at hylen
    have HRa7 := Lib.hid (HRa6.out.later hb (Nat.le_refl _))
    clear hb hO HA HB6 HRa6 HRa
    go_wp2_with fail
    refine (column_Shared s t l m w7 HS.out HS2.out).mono ?_
    rintro e w8 ⟨rfl, hb⟩
    rw [← HNh.out]
    have HB8 := Lib.hid (HB7.out.trans (hb.mono HB7.out.size))
    have HRa8 := Lib.hid (HRa7.out.later hb (Nat.le_refl _))
    clear hb HB7 HRa7
    rw [hsz] at HRr hRlen
    go_wp2_with fail
    refine (law09_alive w8 (HT.out.later HB8.out)).mono ?_
    rintro e w9 ⟨rfl, hb⟩
    have HB9 := Lib.hid (HB8.out.trans (hb.mono HB8.out.size))
    have HRa9 := Lib.hid (HRa8.out.later hb (Nat.le_refl _))
    clear hb HB8 HRa8
    go_wp2_with fail
    refine (wire_Size (N : Int) (by omega) (by omega) w9).mono ?_
    rintro e wx ⟨rfl, rfl⟩
    rw [Int.toNat_natCast, ← HUL.out]
    go_wp2_with fail
    refine (wire_Size (rl : Int) (by omega) (by omega) w9).mono ?_
    rintro e wx ⟨rfl, rfl⟩
    rw [Int.toNat_natCast, HRL.out, ← HVL.out]
    obtain ⟨cv, hcut, hcv⟩ := HRa9.out.from (xl - rl) (by rw [← HXL.out]; omega)
    rw [show ((xl - rl : Nat) : Int) = (xl : Int) - (rl : Int) from by omega] at hcut
    have hstr := (hcv w9 HRa9.out).str
    rw [HXL.out, HRL.out, HXd.out] at hstr
    have heq : (⟨r.toArray⟩ : ByteArray) = t.extract N m.length := HRr.out.eq.symm
    rw [heq] at hstr
    clear hcv heq
    go_wp2
    go_ret
    exact ⟨by simp, HB9.out⟩
  · have hor : decide ((200 : Int) < (l.length : Int)) = true ∨ (decide ((200 : Int) < (l.length : Int)) = false ∧ decide ((200 : Int) < (m.length : Int)) = true) := by
      by_cases h : 200 < l.length
      · exact .inl (decide_eq_true (by omega))
      · exact .inr ⟨decide_eq_false (by omega), decide_eq_true (by omega)⟩
    have CA := Lib.hid (law09_alive w HT.out)
    rcases hor with d1 | ⟨d1, d2⟩
    all_goals (
      clear hgo
      go_enter Tryd.func10, Tryd.ntmps10
      go_wp2_with fail
      refine CA.out.mono ?_
      rintro e w2 ⟨rfl, hb⟩
      have HB2 := Lib.hid hb
      clear hb CA
      go_wp2
      go_ret
      exact ⟨rfl, HB2.out⟩)

end Go.Proofs.YtccclfpngdjmjaaDoor
