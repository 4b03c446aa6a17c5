/-
  The order of two rows, in lists (no program in it).
-/
import Derived.Test.YtkljkpffpdpphaaGreatDoorRowPlain
import Derived.Test.YtkljkpffpdpphaaGreatDoorCellCompare
set_option linter.unusedVariables false
set_option linter.unusedSimpArgs false
set_option maxRecDepth 1000000
namespace Go.Proofs.YtkljkpffpdpphaaGreatDoor
open Go.RowKit Go.Shelf

def cmpX (kind : Int) (a b : CellB) : Int := cmpC kind a.1 a.2.data.toList b.1 b.2.data.toList
/-- The order of the first cells that are unlike. -/
def cmpL : List ColB → List (CellB × CellB) → Int
  | c :: cs, p :: ps => if cmpX c.2 p.1 p.2 ≠ 0 then cmpX c.2 p.1 p.2 else cmpL cs ps
  | _, _ => 0
theorem cmpL_append : ∀ (cs : List ColB) (l m : List (CellB × CellB)), l.length ≤ cs.length → cmpL cs (l ++ m) = if cmpL cs l ≠ 0 then cmpL cs l else cmpL (cs.drop l.length) m
  | [], [], m, _ => by
    have e : cmpL [] [] = 0 := by rw [cmpL]; intros; contradiction
    rw [if_neg (fun h => h e)]; rfl
  | c :: cs, [], m, _ => by
    have e : cmpL (c :: cs) [] = 0 := by rw [cmpL]; intros; contradiction
    rw [if_neg (fun h => h e)]; rfl
  | [], p :: l, m, h => by simp at h
  | c :: cs, p :: l, m, h => by
    rw [List.cons_append, cmpL, cmpL_append cs l m (by simpa using h), cmpL]
    by_cases h0 : cmpX c.2 p.1 p.2 = 0
    · have h' : ¬ cmpX c.2 p.1 p.2 ≠ 0 := fun h9 => h9 h0
      rw [if_neg h', if_neg h']; rfl
    · rw [if_pos h0, if_pos h0, if_pos h0]
theorem cmpL_one (cs : List ColB) (x : CellB × CellB) (h : 0 < cs.length) : cmpL cs [x] = cmpX (cs.getD 0 default).2 x.1 x.2 := by
  cases cs with
  | nil => simp at h
  | cons c r =>
    rw [cmpL]
    have e : cmpL r [] = 0 := by
      cases r with
      | nil => rw [cmpL]; intros; contradiction
      | cons _ _ => rw [cmpL]; intros; contradiction
    rw [e]
    show _ = cmpX c.2 x.1 x.2
    split
    · rfl
    · rename_i h9; exact (Decidable.of_not_not h9).symm
theorem cmpL_snoc (cs : List ColB) (l : List (CellB × CellB)) (x : CellB × CellB) (h : l.length < cs.length) (h0 : cmpL cs l = 0) : cmpL cs (l ++ [x]) = cmpX (cs.getD l.length default).2 x.1 x.2 := by
  rw [cmpL_append cs l [x] (by omega), if_neg (fun h9 => h9 h0), cmpL_one _ _ (by rw [List.length_drop]; omega)]
  have e : (cs.drop l.length).getD 0 default = cs.getD l.length default := by simp [List.getD]
  rw [e]
theorem cmpL_take {cs : List ColB} {l : List (CellB × CellB)} {k : Nat} (hl : l.length ≤ cs.length) (h : cmpL cs (l.take k) ≠ 0) : cmpL cs l = cmpL cs (l.take k) := by
  have := cmpL_append cs (l.take k) (l.drop k) (by rw [List.length_take]; omega)
  rw [List.take_append_drop, if_pos h] at this
  exact this

/-- The order of two rows of a schema. -/
def cmpR (cs : List ColB) (a b : List CellB) : Int := if errRow cs a ≠ 0 ∨ errRow cs b ≠ 0 then 0 else cmpL cs (a.zip b)
theorem errRow_len {cs : List ColB} {a : List CellB} (h : errRow cs a = 0) : errS (colsL cs) = 0 ∧ a.length = cs.length ∧ errP (cs.zip a) = 0 := by
  unfold errRow at h
  by_cases h0 : errS (colsL cs) = 0
  · rw [if_pos h0] at h
    unfold errC at h
    by_cases h1 : a.length = cs.length
    · rw [if_pos h1] at h; exact ⟨h0, h1, h⟩
    · rw [if_neg h1] at h; cases h
  · rw [if_neg h0] at h; exact absurd h h0
theorem cmpC_small (kind : Int) (x : Nat) (l : List UInt8) (y : Nat) (m : List UInt8) : -9223372036854775808 ≤ cmpC kind x l y m ∧ cmpC kind x l y m ≤ 9223372036854775807 := by
  unfold cmpC
  repeat' split
  all_goals omega

end Go.Proofs.YtkljkpffpdpphaaGreatDoor


/-
  The document's Compare of layer 6.
-/
namespace Go.Proofs.YtkljkpffpdpphaaGreatDoor
open Go.RowKit Go.Shelf

set_option maxHeartbeats 8000000 in
theorem ref_Compare06 (v1 v2 v3 : Value) (cs : List ColB) (a b : List CellB) (w : World) (h1 : RdC w v1 cs) (h2 : RdE w v2 a) (h3 : RdE w v3 b) (hC : CS cs) (hA : CES a) (hB : CES b) :
    Calls Tryz.prog 13 #[v1, v2, v3] w fun e w' => e = .returned (.int .i64 (cmpR cs a b)) ∧ Below w.heap.size w w' := by
  have hl1 := h1.len
  have hsm := h1.small
  have R1 := Lib.hid (fun wz (hz : Below w.heap.size w wz) => h1.later hz (Nat.le_refl _))
  have R2 := Lib.hid (fun wz (hz : Below w.heap.size w wz) => h2.later hz (Nat.le_refl _))
  have R3 := Lib.hid (fun wz (hz : Below w.heap.size w wz) => h3.later hz (Nat.le_refl _))
  obtain ⟨x, hx⟩ : ∃ x, x = errRow cs a := ⟨_, rfl⟩
  obtain ⟨y, hy⟩ : ∃ y, y = errRow cs b := ⟨_, rfl⟩
  have CA := Lib.hid (fun wz (hz : Below w.heap.size w wz) => (show Calls Tryz.prog 11 #[v1, v2] wz fun e w' => e = .returned (.int .i64 (x : Int)) ∧ Below wz.heap.size wz w' from by
    rw [hx]; exact ref_Check06 v1 v2 cs a wz (R1.out wz hz) (R2.out wz hz) hC hA))
  have CB := Lib.hid (fun wz (hz : Below w.heap.size w wz) => (show Calls Tryz.prog 11 #[v1, v3] wz fun e w' => e = .returned (.int .i64 (y : Int)) ∧ Below wz.heap.size wz w' from by
    rw [hy]; exact ref_Check06 v1 v3 cs b wz (R1.out wz hz) (R3.out wz hz) hC hB))
  clear h1 h2 h3
  by_cases h0 : x = 0
  · by_cases hy0 : y = 0
    · have hxl := errRow_len (show errRow cs a = 0 from by omega)
      have hyl := errRow_len (show errRow cs b = 0 from by omega)
      have HE := Lib.hid (show cmpR cs a b = cmpL cs (a.zip b) from by unfold cmpR; rw [if_neg (by omega)])
      subst h0 hy0
      rw [show ((0 : Nat) : Int) = 0 from rfl] at CA CB
      have HLA := Lib.hid hxl.2.1
      have HLB := Lib.hid hyl.2.1
      obtain ⟨n, hn⟩ : ∃ n, n = cs.length := ⟨_, rfl⟩
      rw [← hn] at hl1 hsm
      have HN := Lib.hid hn
      clear hx hy hxl hyl hn
      go_enter Tryz.func13, Tryz.ntmps13
      go_wp2_with fail
      refine (CA.out _ (Below.refl _ _)).mono ?_
      rintro e w1 ⟨rfl, hb⟩
      have HB1 := Lib.hid hb
      clear hb
      go_wp2_with fail
      refine (CB.out _ HB1.out).mono ?_
      rintro e w2 ⟨rfl, hb⟩
      have HB2 := Lib.hid (HB1.out.trans (hb.mono HB1.out.size))
      clear hb
      go_wp2
      go_loopw [7] (fun i wr => ∃ k : Nat, k ≤ n ∧ i = .int .i64 k ∧ Hid (cmpL cs ((a.zip b).take k) = 0) ∧ Hid (Below w.heap.size w wr)) (fun i _ => n - (intOf i).toNat)
      case atStart => exact ⟨0, by omega, rfl, Lib.hid (by cases cs <;> rfl), HB2⟩
      case round =>
        clear HB1 HB2 CA CB
        obtain ⟨k, hk, rfl, HP, HB⟩ := hrel
        by_cases hlt : k < n
        · have k1 : k < cs.length := by rw [← HN.out]; exact hlt
          have k2 : k < a.length := by rw [HLA.out]; exact k1
          have k3 : k < b.length := by rw [HLB.out]; exact k1
          have hab : a.length = b.length := by rw [HLA.out, HLB.out]
          have hr1 := R1.out wr HB.out
          have hr2 := R2.out wr HB.out
          have hr3 := R3.out wr HB.out
          obtain ⟨ba, oa, hia, hca, _⟩ := hr1.get k1
          obtain ⟨bb, ob, hib, hcb, _⟩ := hr2.get k2
          obtain ⟨bc, oc, hic, hcc, _⟩ := hr3.get k3
          obtain ⟨ca0, ca1⟩ := hca _ hr1
          obtain ⟨cb0, cb1⟩ := hcb _ hr2
          obtain ⟨cc0, cc1⟩ := hcc _ hr3
          have hce1 := hA.get k2
          have hce2 := hB.get k3
          have hcs := hC.get k1
          have HC := Lib.hid (show cmpL cs ((a.zip b).take (k + 1)) = cmpX (cs.getD k default).2 (a.getD k default) (b.getD k default) from by
            rw [zip_get a b hab k k2, cmpL_snoc _ _ _ (by rw [List.length_take, List.length_zip]; omega) HP.out]
            rw [List.length_take, List.length_zip, show min k (min a.length b.length) = k from by omega])
          rcases hga : cs.getD k default with ⟨xa, ya⟩
          rcases hgb : a.getD k default with ⟨xb, yb⟩
          rcases hgc : b.getD k default with ⟨xc, yc⟩
          rw [hga] at ca0 ca1 HC hcs
          rw [hgb] at cb0 cb1 HC hce1
          rw [hgc] at cc0 cc1 HC hce2
          dsimp only at ca0 ca1 cb0 cb1 cc0 cc1
          obtain ⟨c, hc⟩ : ∃ c, c = cmpC ya xb yb.data.toList xc yc.data.toList := ⟨_, rfl⟩
          have HC := Lib.hid (HC.out.trans hc.symm)
          have CK := Lib.hid (show Calls Tryz.prog 29 #[.int .i64 ya, .agg #[.int .u64 (xb : Int), .string yb], .agg #[.int .u64 (xc : Int), .string yc]] wr.drew fun e w' => e = .returned (.int .i64 c) ∧ Below w.heap.size w w' ∧
              w'.cell? ⟨ba, oa + 1, none⟩ = some (.int .i64 ya) ∧ (w'.cell? ⟨bb, ob, none⟩ = some (.int .u64 (xb : Int)) ∧ w'.cell? ⟨bb, ob + 1, none⟩ = some (.string yb)) ∧ (w'.cell? ⟨bc, oc, none⟩ = some (.int .u64 (xc : Int)) ∧ w'.cell? ⟨bc, oc + 1, none⟩ = some (.string yc)) from by
            rw [hc]
            refine (ref_Compare ya hcs.2 xb xc hce1.1 hce2.1 yb yc _ _ wr.drew (CES.rdS hce1) (CES.rdS hce2)).mono ?_
            rintro e w' ⟨he, hb⟩
            exact ⟨he, HB.out.trans ((Below.refl wr.heap.size wr).drew.trans hb |>.mono HB.out.size), keep_cell hb ca1, ⟨keep_cell hb cb0, keep_cell hb cb1⟩, keep_cell hb cc0, keep_cell hb cc1⟩)
          clear hr1 hr2 hr3 hca hcb hcc hga hgb hgc hc hcs hce1 hce2 k1 k2 k3 hab ca0
          by_cases h0 : c = 0
          · subst h0
            go_wp2
            go_region_held3 (fun u => u.cell? ⟨ba, oa + 1, none⟩ = some (.int .i64 ya) ∧ (u.cell? ⟨bb, ob, none⟩ = some (.int .u64 (xb : Int)) ∧ u.cell? ⟨bb, ob + 1, none⟩ = some (.string yb)) ∧ (u.cell? ⟨bc, oc, none⟩ = some (.int .u64 (xc : Int)) ∧ u.cell? ⟨bc, oc + 1, none⟩ = some (.string yc))) (first | go_keep | (exact ⟨m1, m2, m3⟩))
              ((go_at_call 29; refine CK.out.mono ?_; rintro e w' ⟨rfl, hb, m1, m2, m3⟩))
            have HB3 := Lib.hid hb
            clear hb m1 m2 m3 CK ca1 cb0 cb1 cc0 cc1 hia hib hic
            go_wp2
            go_roundw
            case rel => exact ⟨k + 1, by omega, by go_num, HC, HB3⟩
            case measure => simp [intOf]; omega
          · have q : (c != 0) = true := by rw [bne_iff_ne]; omega
            go_wp2
            go_region_held3 (fun u => u.cell? ⟨ba, oa + 1, none⟩ = some (.int .i64 ya) ∧ (u.cell? ⟨bb, ob, none⟩ = some (.int .u64 (xb : Int)) ∧ u.cell? ⟨bb, ob + 1, none⟩ = some (.string yb)) ∧ (u.cell? ⟨bc, oc, none⟩ = some (.int .u64 (xc : Int)) ∧ u.cell? ⟨bc, oc + 1, none⟩ = some (.string yc))) (first | go_keep | (exact ⟨m1, m2, m3⟩))
              ((go_at_call 29; refine CK.out.mono ?_; rintro e w' ⟨rfl, hb, m1, m2, m3⟩))
            have HB3 := Lib.hid hb
            clear hb m1 m2 m3 CK ca1 cb0 cb1 cc0 cc1 hia hib hic
            go_wp2
            go_ret
            exact ⟨by rw [HE.out, cmpL_take (k := k + 1) (by rw [List.length_zip, HLA.out, HLB.out]; omega) (by rw [HC.out]; exact h0), HC.out]; rfl, HB3.out⟩
        · obtain rfl : k = n := by omega
          have HF := Lib.hid (show cmpL cs (a.zip b) = 0 from by
            have := HP.out
            rwa [List.take_of_length_le (by rw [List.length_zip, HLA.out, HLB.out, ← HN.out]; omega)] at this)
          clear hlt
          go_wp2
          go_ret
          exact ⟨by rw [HE.out, HF.out]; rfl, HB.out⟩
    · have HE := Lib.hid (show cmpR cs a b = 0 from by unfold cmpR; rw [if_pos (.inr (by omega))])
      have q : ((y : Int) != 0) = true := by rw [bne_iff_ne]; omega
      subst h0
      rw [show ((0 : Nat) : Int) = 0 from rfl] at CA
      clear hx hy
      go_enter Tryz.func13, Tryz.ntmps13
      go_wp2_with fail
      refine (CA.out _ (Below.refl _ _)).mono ?_
      rintro e w1 ⟨rfl, hb⟩
      have HB1 := Lib.hid hb
      clear hb
      go_wp2_with fail
      refine (CB.out _ HB1.out).mono ?_
      rintro e w2 ⟨rfl, hb⟩
      have HB2 := Lib.hid (HB1.out.trans (hb.mono HB1.out.size))
      clear hb
      go_wp2
      go_ret
      exact ⟨by rw [HE.out]; rfl, HB2.out⟩
  · have HE := Lib.hid (show cmpR cs a b = 0 from by unfold cmpR; rw [if_pos (.inl (by omega))])
    have q : ((x : Int) != 0) = true := by rw [bne_iff_ne]; omega
    clear hx hy
    go_enter Tryz.func13, Tryz.ntmps13
    go_wp2_with fail
    refine (CA.out _ (Below.refl _ _)).mono ?_
    rintro e w1 ⟨rfl, hb⟩
    have HB1 := Lib.hid hb
    clear hb
    go_wp2
    go_ret
    exact ⟨by rw [HE.out]; rfl, HB1.out⟩

end Go.Proofs.YtkljkpffpdpphaaGreatDoor

