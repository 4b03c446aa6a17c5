/-
  The document's own answers for layer 5: a name that may be.
-/
import Derived.Test.YtdegeifklchjaaaDoorSchCheck
set_option linter.unusedVariables false
set_option linter.unusedSimpArgs false
set_option maxRecDepth 1000000
namespace Go.Proofs.YtdegeifklchjaaaDoor
open Go.RowKit Go.Shelf

theorem all_step {l : List UInt8} {k : Nat} (h : k < l.length) (p : UInt8 → Bool) : (l.take (k + 1)).all p = ((l.take k).all p && p (l.getD k 0)) := by
  rw [take_succD h 0, List.all_append]; simp
theorem names_step {cs : List ColB} {k : Nat} (h : k < cs.length) : names ((colsL cs).take (k + 1)) = names ((colsL cs).take k) ++ [(cs.getD k default).1.data.toList] := by
  rw [take_succD (by rw [colsL_length]; exact h) default, colsL_getD h]
  simp [names, colL]

set_option maxHeartbeats 4000000 in
theorem ref_Fine (s : ByteArray) (l : List UInt8) (v : Value) (cs : List ColB) (w : World) (h : RdS s l) (hR : RdC w v cs) :
    Calls Tryd.prog 29 #[.string s, v] w fun e w' => e = .returned (.bool (fine l (names (colsL cs)))) ∧ w' = w := by
  have hlen := h.len
  have hsm := h.small
  have htl := h.toList
  have hdl : s.data.toList = l := by rw [h.eq]
  have hcl := hR.len
  have hcs := hR.small
  by_cases hl : l = []
  · have q : s.toList.isEmpty = true := by rw [htl, hl]; rfl
    have q2 : (s.toList == []) = true := by rw [htl, hl]; rfl
    have HF := Lib.hid (show fine l (names (colsL cs)) = false by rw [hl]; rfl)
    clear htl hdl hl hlen
    go_enter Tryd.func29, Tryd.ntmps29
    go_wp2
    go_ret
    exact ⟨by rw [HF.out]; rfl, rfl⟩
  have q : s.toList.isEmpty = false := by rw [htl]; cases l <;> simp_all
  have q2 : (s.toList == []) = false := by rw [htl]; simpa using hl
  have hle : l.isEmpty = false := by cases l <;> simp_all
  have HE := Lib.hid (show fine l (names (colsL cs)) = (l.all (fun c => letterB c.toNat) && !(names (colsL cs)).contains l) by unfold fine; rw [hle]; rfl)
  have HI := Lib.hid h.idx
  have HTL := Lib.hid htl
  have HR := Lib.hid hR
  have HDL := Lib.hid hdl
  clear htl hle hl hR hdl
  go_enter Tryd.func29, Tryd.ntmps29
  go_wp2
  go_loop [5] (fun i => ∃ k : Nat, k ≤ l.length ∧ i = .int .i64 k ∧ Hid ((l.take k).all (fun c => letterB c.toNat) = true)) (fun i => l.length - (intOf i).toNat)
  case atStart => exact ⟨0, by omega, rfl, Lib.hid rfl⟩
  case round =>
    obtain ⟨k, hk, rfl, HA⟩ := hrel
    by_cases hlt : k < l.length
    · have hx := HI.out k hlt
      obtain ⟨c, hc⟩ : ∃ c : Nat, c = (l.getD k 0).toNat := ⟨_, rfl⟩
      have hc9 : at8 l k = (c : Int) := by rw [hc]; rfl
      have hc1 : c < 256 := by rw [hc]; exact (l.getD k 0).toNat_lt
      rw [hc9] at hx
      have hst := all_step hlt (fun c => letterB c.toNat)
      have HS := Lib.hid (show (l.take (k + 1)).all (fun c => letterB c.toNat) = letterB c by rw [hst, HA.out, ← hc]; rfl)
      have HL := Lib.hid (show l.all (fun c => letterB c.toNat) = true → letterB c = true from fun hh => by
        rw [hc]
        have e : l.getD k 0 = l[k] := by simp [List.getD, hlt]
        rw [e]
        exact List.all_eq_true.1 hh _ (List.getElem_mem _))
      clear hc hc9 hst
      by_cases hle : letterB c = true
      · have HS2 := Lib.hid (HS.out.trans hle)
        unfold letterB at hle
        have hle := of_decide_eq_true hle
        clear HS HL
        rcases hle with ⟨p1, p2⟩ | ⟨p1, p2⟩ | p1
        · have d1 : decide ((c : Int) ≥ 97) = true := decide_eq_true (by omega)
          have d2 : decide ((c : Int) ≤ 122) = true := decide_eq_true (by omega)
          go_wp2
          go_round
          case rel => exact ⟨k + 1, by omega, by go_num, HS2⟩
          case measure => simp [intOf]; omega
        · have d1 : decide ((c : Int) ≥ 97) = false := decide_eq_false (by omega)
          have d2 : decide ((c : Int) ≥ 48) = true := decide_eq_true (by omega)
          have d3 : decide ((c : Int) ≤ 57) = true := decide_eq_true (by omega)
          go_wp2
          go_round
          case rel => exact ⟨k + 1, by omega, by go_num, HS2⟩
          case measure => simp [intOf]; omega
        · have d1 : decide ((c : Int) ≥ 97) = false := decide_eq_false (by omega)
          have d2 : decide ((c : Int) ≥ 48) = true := decide_eq_true (by omega)
          have d3 : decide ((c : Int) ≤ 57) = false := decide_eq_false (by omega)
          have d4 : ((c : Int) == 95) = true := by rw [p1]; rfl
          clear p1
          go_wp2
          go_round
          case rel => exact ⟨k + 1, by omega, by go_num, HS2⟩
          case measure => simp [intOf]; omega
      · have HF := Lib.hid (show fine l (names (colsL cs)) = false by
          rw [HE.out, show l.all (fun c => letterB c.toNat) = false from by
            cases hb : l.all (fun c => letterB c.toNat) with
            | false => rfl
            | true => exact absurd (HL.out hb) hle]
          rfl)
        unfold letterB at hle
        have hle : ¬ (97 ≤ c ∧ c ≤ 122 ∨ 48 ≤ c ∧ c ≤ 57 ∨ c = 95) := fun hh => hle (decide_eq_true hh)
        clear HS HL
        have d4 : ((c : Int) == 95) = false := by rw [beq_eq_false_iff_ne]; omega
        by_cases p1 : 97 ≤ c
        · have d1 : decide ((c : Int) ≥ 97) = true := decide_eq_true (by omega)
          have d2 : decide ((c : Int) ≤ 122) = false := decide_eq_false (by omega)
          have d5 : decide ((c : Int) ≥ 48) = true := decide_eq_true (by omega)
          have d3 : decide ((c : Int) ≤ 57) = false := decide_eq_false (by omega)
          go_wp2
          go_ret
          exact ⟨by rw [HF.out]; rfl, rfl⟩
        · have d1 : decide ((c : Int) ≥ 97) = false := decide_eq_false (by omega)
          by_cases p2 : 48 ≤ c
          · have d5 : decide ((c : Int) ≥ 48) = true := decide_eq_true (by omega)
            have d3 : decide ((c : Int) ≤ 57) = false := decide_eq_false (by omega)
            go_wp2
            go_ret
            exact ⟨by rw [HF.out]; rfl, rfl⟩
          · have d5 : decide ((c : Int) ≥ 48) = false := decide_eq_false (by omega)
            go_wp2
            go_ret
            exact ⟨by rw [HF.out]; rfl, rfl⟩
    · obtain rfl : k = l.length := by omega
      have HE2 := Lib.hid (show fine l (names (colsL cs)) = !(names (colsL cs)).contains l by
        have := HA.out
        rw [List.take_of_length_le (Nat.le_refl _)] at this
        rw [HE.out, this]; rfl)
      clear HA HE
      go_wp2
      go_loop [7] (fun i => ∃ k : Nat, k ≤ cs.length ∧ i = .int .i64 k ∧ Hid ((names ((colsL cs).take k)).contains l = false)) (fun i => cs.length - (intOf i).toNat)
      case atStart => exact ⟨0, by omega, rfl, Lib.hid rfl⟩
      case round =>
        obtain ⟨k, hk, rfl, HA⟩ := hrel
        by_cases hlt : k < cs.length
        · obtain ⟨b, o, hi, hc, hb⟩ := HR.out.get hlt
          obtain ⟨c0, c1⟩ := hc _ HR.out
          have hns := names_step hlt
          have HIN := Lib.hid (show (cs.getD k default).1.data.toList ∈ names (colsL cs) from by
            have e : cs.getD k default = cs[k] := by simp [List.getD, hlt]
            rw [e]
            exact List.mem_map.2 ⟨colL cs[k], List.mem_map.2 ⟨cs[k], List.getElem_mem _, rfl⟩, rfl⟩)
          rcases hcg : cs.getD k default with ⟨t, kd⟩
          rw [hcg] at c0 c1 hns HIN
          dsimp only at c0 c1 hns
          have HNS := Lib.hid hns
          clear hc hns hcg
          by_cases hst : t = s
          · subst hst
            have HF := Lib.hid (show fine l (names (colsL cs)) = false by
              rw [HE2.out]
              have := HIN.out
              dsimp only at this
              rw [HDL.out] at this
              simpa using this)
            clear HNS HIN
            go_wp2
            go_ret
            exact ⟨by rw [HF.out]; rfl, rfl⟩
          · have hne : (t.toList == s.toList) = false := by
              rw [beq_eq_false_iff_ne]
              intro e
              rw [Lib.toList_data, Lib.toList_data] at e
              exact hst (by cases s; cases t; simp at e; rw [e])
            have HN2 := Lib.hid (show (names ((colsL cs).take (k + 1))).contains l = false by
              rw [HNS.out]
              have h0 := HA.out
              have h1 : ¬ l = t.data.toList := fun e => hst (by
                have := HDL.out
                rw [e] at this
                cases s; cases t; simp at this; rw [this])
              simp at h0 ⊢
              exact ⟨h0, h1⟩)
            clear HNS hst HIN
            go_wp2
            go_round
            case rel => exact ⟨k + 1, by omega, by go_num, HN2⟩
            case measure => simp [intOf]; omega
        · obtain rfl : k = cs.length := by omega
          have HF := Lib.hid (show fine l (names (colsL cs)) = true by
            have := HA.out
            rw [List.take_of_length_le (by rw [colsL_length]; exact Nat.le_refl _)] at this
            rw [HE2.out, this]; rfl)
          clear hlt
          go_wp2
          go_ret
          exact ⟨by rw [HF.out]; rfl, rfl⟩

end Go.Proofs.YtdegeifklchjaaaDoor
