/-
  Bytes' digits read, as the document's own answer for layer 4 tells them.
-/
import Derived.Test.YtdegeifklchjaaaGreatDoorUnsig
set_option linter.unusedVariables false
set_option linter.unusedSimpArgs false
set_option maxRecDepth 1000000
namespace Go.Proofs.YtdegeifklchjaaaGreatDoor
open Go.RowKit

def unhexV : List UInt8 → Option (List UInt8)
  | [] => some []
  | [_] => none
  | a :: b :: r => if 0 ≤ digV a.toNat ∧ 0 ≤ digV b.toNat then (unhexV r).map (UInt8.ofNat (16 * digV a.toNat + digV b.toNat).toNat :: ·) else none

/-- The bytes that digits tell. -/
def unhexC (l : List UInt8) : Option (List UInt8) := if l = [45] then some [] else if l = [] then none else unhexV l

theorem unhexV_odd : ∀ (l : List UInt8), l.length % 2 = 1 → unhexV l = none
  | [], h => by simp at h
  | [_], _ => rfl
  | a :: b :: r, h => by
    rw [unhexV, unhexV_odd r (by simp at h; omega)]
    split <;> rfl

theorem drop_cons2 {l : List UInt8} {k : Nat} (h : k + 1 < l.length) : l.drop k = l.getD k 0 :: l.getD (k + 1) 0 :: l.drop (k + 2) := by
  rw [drop_cons8 (by omega), drop_cons8 h]

theorem digV_bounds (c : Nat) : -1 ≤ digV c ∧ digV c ≤ 15 := by
  unfold digV; split
  · omega
  · split <;> omega

/-- What is read of bytes' digits is the bytes. -/
theorem unhexV_hexL (l : List UInt8) : unhexV (hexL l) = some l := by
  induction l with
  | nil => rfl
  | cons a r ih =>
    have ha := a.toNat_lt
    have e : hexL (a :: r) = dig (a.toNat / 16) :: dig (a.toNat % 16) :: hexL r := by unfold hexL; simp
    rw [e, unhexV, ih, digV_dig (by omega), digV_dig (by omega), if_pos (by omega)]
    simp
    rw [show (16 * ((a.toNat : Int) / 16) + (a.toNat : Int) % 16).toNat = a.toNat by omega]
    simp

theorem unhexC_hexC (l : List UInt8) : unhexC (hexC l) = some l := by
  unfold unhexC hexC
  by_cases h : l = []
  · rw [if_pos h, if_pos rfl, h]
  · have hl := hexL_len l
    have h0 : 0 < l.length := List.length_pos_iff.mpr h
    rw [if_neg h, if_neg (by intro e; rw [e] at hl; simp at hl; omega), if_neg (by intro e; rw [e] at hl; simp at hl; omega)]
    exact unhexV_hexL l

set_option maxHeartbeats 2000000 in
set_option maxRecDepth 1000000 in
theorem ref_Unhex (s : ByteArray) (l : List UInt8) (w : World) (h : RdS s l) :
    Calls Tryz.prog 22 #[.string s] w fun e w' => (∃ (t : ByteArray) (m : List UInt8) (b : Bool), e = .returned (.tuple #[.string t, .bool b]) ∧ RdS t m ∧ unhexC l = (if b = true then some m else none)) ∧ Below w.heap.size w w' := by
  have hlen := h.len
  have hidx := h.idx
  have hsm := h.small
  have htl := h.toList
  by_cases h45 : l = [45]
  · have q1 : (s.toList == [45]) = true := by rw [htl, h45]; rfl
    have HF := Lib.hid (show unhexC l = some [] from if_pos h45)
    clear htl h45
    go_enter Tryz.func22, Tryz.ntmps22
    go_wp2
    go_ret2
    exact ⟨⟨_, [], true, rfl, ⟨rfl, by simp⟩, by rw [HF.out]; rfl⟩, Below.refl _ _⟩
  have q1 : (s.toList == [45]) = false := by rw [htl]; simpa using h45
  by_cases hem : l = []
  · have q2 : s.toList.isEmpty = true := by rw [htl, hem]; rfl
    have HF := Lib.hid (show unhexC l = none by unfold unhexC; rw [if_neg h45, if_pos hem])
    clear htl h45 hem
    go_enter Tryz.func22, Tryz.ntmps22
    go_wp2
    go_ret2
    exact ⟨⟨_, [], false, rfl, ⟨rfl, by simp⟩, by rw [HF.out]; rfl⟩, Below.refl _ _⟩
  have q2 : s.toList.isEmpty = false := by rw [htl]; cases l <;> simp_all
  have HU := Lib.hid (show unhexC l = unhexV l by unfold unhexC; rw [if_neg h45, if_neg hem])
  clear htl h45 hem
  by_cases hodd : l.length % 2 = 1
  · have q3 : ((l.length : Int) % 2 != 0) = true := by simp; omega
    have HF := Lib.hid (show unhexC l = none by rw [HU.out]; exact unhexV_odd l hodd)
    clear hodd
    go_enter Tryz.func22, Tryz.ntmps22
    go_wp2
    go_ret2
    exact ⟨⟨_, [], false, rfl, ⟨rfl, by simp⟩, by rw [HF.out]; rfl⟩, Below.refl _ _⟩
  obtain ⟨z, hz⟩ : ∃ z, l.length = 2 * z := ⟨l.length / 2, by omega⟩
  have q3 : ((l.length : Int) % 2 != 0) = false := by simp; omega
  have HZ := Lib.hid hz
  clear hodd hz
  go_enter Tryz.func22, Tryz.ntmps22
  go_wp2
  go_loopw [4, 5] (fun a i wr => ∃ (k j : Nat) (m : List UInt8), k ≤ z ∧ Hid (j = 2 * k) ∧ i = .int .i64 (j : Int) ∧ Hid (m.length = k) ∧ Hid (unhexV l = (unhexV (l.drop j)).map (m ++ ·)) ∧ Own wr w.heap.size a m ∧ Below w.heap.size w wr) (fun _ i _ => l.length - (intOf i).toNat)
  case atStart => exact ⟨0, 0, [], by omega, Lib.hid rfl, rfl, Lib.hid rfl, Lib.hid (by simp), own_nil _ _, Below.refl _ _⟩
  case round =>
    obtain ⟨k, j, m, hk, HJ, rfl, HM, HV, hown, hbel⟩ := hrel
    have hj := HJ.out
    have hz := HZ.out
    by_cases hlt : k < z
    · have hx := hidx j (by omega)
      have hy := hidx (j + 1) (by omega)
      rw [show ((j + 1 : Nat) : Int) = (j : Int) + 1 from by omega] at hy
      obtain ⟨c, hc⟩ : ∃ c : Nat, at8 l j = (c : Int) := ⟨(l.getD j 0).toNat, rfl⟩
      obtain ⟨d, hd⟩ : ∃ d : Nat, at8 l (j + 1) = (d : Int) := ⟨(l.getD (j + 1) 0).toNat, rfl⟩
      have hcc : (l.getD j 0).toNat = c := by unfold at8 at hc; omega
      have hdd : (l.getD (j + 1) 0).toNat = d := by unfold at8 at hd; omega
      have hc1 := at8_hi l j
      have hd1 := at8_hi l (j + 1)
      rw [hc] at hc1 hx
      rw [hd] at hd1 hy
      have HS := Lib.hid (show unhexV (l.drop j) = if 0 ≤ digV c ∧ 0 ≤ digV d then (unhexV (l.drop (j + 2))).map (UInt8.ofNat (16 * digV c + digV d).toNat :: ·) else none by
        rw [drop_cons2 (by omega), unhexV, hcc, hdd])
      clear hidx hc hd hcc hdd
      have hcb := digV_bounds c
      have hdb := digV_bounds d
      obtain ⟨x, hx9⟩ : ∃ x, x = digV c := ⟨_, rfl⟩
      obtain ⟨y, hy9⟩ : ∃ y, y = digV d := ⟨_, rfl⟩
      have HX := Lib.hid hx9
      have HY := Lib.hid hy9
      rw [← hx9] at hcb
      rw [← hy9] at hdb
      clear hx9 hy9
      by_cases hok : 0 ≤ x ∧ 0 ≤ y
      · have p1 : decide (x < 0) = false := decide_eq_false (by omega)
        have p2 : decide (y < 0) = false := decide_eq_false (by omega)
        have hq2 : 0 ≤ 16 * x + y ∧ 16 * x + y ≤ 255 := by omega
        have hbelA : Below w.heap.size w (wr.alloc (.cells #[.int .u8 (16 * x + y)] 5)) := hbel.alloc hbel.size _
        have hjl : j + 1 < l.length := by omega
        have hz9 : k + 1 ≤ z := by omega
        clear hj hz
        go_wp2_with fail
        refine (ref_digit c (by omega) _).mono ?_
        rintro e w1 ⟨rfl, rfl⟩
        rw [← HX.out]
        go_wp2_with fail
        refine (ref_digit d (by omega) _).mono ?_
        rintro e w1 ⟨rfl, rfl⟩
        rw [← HY.out]
        go_wp2_with (with_reducible refine wpl_append w.heap.size _ m ?hs (hown.alloc _) _ [UInt8.ofNat (16 * x + y).toNat] ?hx (rd_one wr (16 * x + y) (by omega) (by omega)) ?hn ?hbase w.heap.size w hbelA (Nat.le_refl _) ?_)
        case hs => rfl
        case hx => rfl
        case hn => have := HM.out; have := HJ.out; simp; omega
        case hbase => have := hbel.size; simp; omega
        intro v' w' hown' hbel' _
        go_wp2
        go_roundw
        case rel =>
          refine ⟨k + 1, j + 2, m ++ [UInt8.ofNat (16 * x + y).toNat], by omega, Lib.hid (by have := HJ.out; omega), by push_cast; rfl, Lib.hid (by simp [HM.out]), Lib.hid ?_, hown', hbel'⟩
          rw [HV.out, HS.out, ← HX.out, ← HY.out, if_pos hok]
          cases unhexV (l.drop (j + 2)) <;> simp
        case measure => simp [intOf]; omega
      · have HF := Lib.hid (show unhexC l = none by rw [HU.out, HV.out, HS.out, ← HX.out, ← HY.out, if_neg hok]; rfl)
        have hjl : j + 1 < l.length := by omega
        clear hj hz
        by_cases hx0 : x < 0
        · have p1 : decide (x < 0) = true := decide_eq_true hx0
          go_wp2_with fail
          refine (ref_digit c (by omega) _).mono ?_
          rintro e w1 ⟨rfl, rfl⟩
          rw [← HX.out]
          go_wp2_with fail
          refine (ref_digit d (by omega) _).mono ?_
          rintro e w1 ⟨rfl, rfl⟩
          rw [← HY.out]
          go_wp2
          go_ret2
          exact ⟨⟨_, [], false, rfl, ⟨rfl, by simp⟩, by rw [HF.out]; rfl⟩, hbel⟩
        · have p1 : decide (x < 0) = false := decide_eq_false hx0
          have p2 : decide (y < 0) = true := decide_eq_true (by omega)
          go_wp2_with fail
          refine (ref_digit c (by omega) _).mono ?_
          rintro e w1 ⟨rfl, rfl⟩
          rw [← HX.out]
          go_wp2_with fail
          refine (ref_digit d (by omega) _).mono ?_
          rintro e w1 ⟨rfl, rfl⟩
          rw [← HY.out]
          go_wp2
          go_ret2
          exact ⟨⟨_, [], false, rfl, ⟨rfl, by simp⟩, by rw [HF.out]; rfl⟩, hbel⟩
    · obtain rfl : k = z := by omega
      have HV2 := Lib.hid (show unhexC l = some m by rw [HU.out, HV.out, show l.drop j = [] from List.drop_of_length_le (by omega)]; simp [unhexV])
      have hm9 : m.length ≤ 140737488351232 := by rw [HM.out]; omega
      have hjl : ¬ (j < l.length) := by omega
      clear hj hz
      have hstr := (hown.rd hm9).str
      go_wp2
      go_ret2
      exact ⟨⟨_, m, true, rfl, ⟨rfl, hm9⟩, by rw [HV2.out]; rfl⟩, hbel⟩

end Go.Proofs.YtdegeifklchjaaaGreatDoor
