/-
  UTF-8 as the document's own answer for layer 4 tells it: the mathematics, and the walk of deckleref04.UTF8.
-/
import Derived.Test.YtkljkpffpdpphaaGreatDoorNums
set_option linter.unusedVariables false
set_option linter.unusedSimpArgs false
set_option maxRecDepth 1000000
namespace Go.Proofs.YtkljkpffpdpphaaGreatDoor
open Go.RowKit

/-- What n bytes more make of c: nothing, if one is lacking, or is no such byte. -/
def utf8V : Nat → Nat → List UInt8 → Option Nat
  | 0, c, _ => some c
  | _ + 1, _, [] => none
  | n + 1, c, b :: r => if b.toNat / 64 = 2 then utf8V n (64 * c + b.toNat % 64) r else none

/-- May it be a rune, with as many bytes? -/
def runeOK (least v : Nat) : Bool := !(decide (v < least) || decide (1114111 < v) || (decide (55296 ≤ v) && decide (v < 57344)))

/-- The first byte: how many come behind, what it holds, and the least that may be. -/
def leadOf (c : Nat) : Option (Nat × Nat × Nat) :=
  if 194 ≤ c ∧ c < 224 then some (1, c % 32, 128)
  else if 224 ≤ c ∧ c < 240 then some (2, c % 16, 2048)
  else if 240 ≤ c ∧ c < 245 then some (3, c % 8, 65536)
  else none

def utf8 : List UInt8 → Bool
  | [] => true
  | c :: r =>
    if c.toNat < 128 then utf8 r
    else match leadOf c.toNat with
      | none => false
      | some (n, m, least) => match utf8V n m r with
        | none => false
        | some v => runeOK least v && utf8 (r.drop n)
  termination_by l => l.length
  decreasing_by all_goals (simp; try omega)

theorem utf8_nil : utf8 [] = true := by rw [utf8]
theorem utf8_low {c : UInt8} {r : List UInt8} (h : c.toNat < 128) : utf8 (c :: r) = utf8 r := by rw [utf8, if_pos h]
theorem utf8_none {c : UInt8} {r : List UInt8} (h : ¬ c.toNat < 128) (hl : leadOf c.toNat = none) : utf8 (c :: r) = false := by rw [utf8, if_neg h, hl]
theorem utf8_lead {c : UInt8} {r : List UInt8} {n m least : Nat} (h : ¬ c.toNat < 128) (hl : leadOf c.toNat = some (n, m, least)) : utf8 (c :: r) = (match utf8V n m r with
        | none => false
        | some v => runeOK least v && utf8 (r.drop n)) := by rw [utf8, if_neg h, hl]

theorem drop_cons8 {l : List UInt8} {i : Nat} (h : i < l.length) : l.drop i = l.getD i 0 :: l.drop (i + 1) := by
  rw [List.drop_eq_getElem_cons h]
  simp [List.getD, h]

theorem utf8V_next {n c i : Nat} {l : List UInt8} (h : i < l.length) : utf8V (n + 1) c (l.drop i) = if (l.getD i 0).toNat / 64 = 2 then utf8V n (64 * c + (l.getD i 0).toNat % 64) (l.drop (i + 1)) else none := by
  rw [drop_cons8 h, utf8V]
theorem utf8V_end {n c i : Nat} {l : List UInt8} (h : l.length ≤ i) : utf8V (n + 1) c (l.drop i) = none := by
  rw [List.drop_eq_nil_of_le h, utf8V]

/-- A string, as the walks read it. -/
structure RdS (s : ByteArray) (l : List UInt8) : Prop where
  eq : s = ⟨l.toArray⟩
  small : l.length ≤ 140737488351232

theorem RdS.len {s : ByteArray} {l : List UInt8} (h : RdS s l) : ∀ u, (Builtin.len_ #[9] 3 #[.string s]).run Tryz.prog u = .ok (.int .i64 (l.length : Int)) u := by
  intro u
  have e := run_len_string (P := Tryz.prog) (w := u) 9 3 (⟨l.toArray⟩ : ByteArray) Tryz.underlying9
  have hs : (⟨l.toArray⟩ : ByteArray).size = l.length := by simp [ByteArray.size]
  rw [hs] at e
  rw [h.eq]
  exact e

theorem RdS.idx {s : ByteArray} {l : List UInt8} (h : RdS s l) (i : Nat) (hi : i < l.length) : ∀ u, (Instr.index 9 (.string s) (.int .i64 (i : Int))).run Tryz.prog u = .ok (.int .u8 (at8 l i)) u := by
  intro u
  rw [h.eq]
  have hs : (⟨l.toArray⟩ : ByteArray).size = l.length := by simp [ByteArray.size]
  rw [run_index_string (P := Tryz.prog) u 9 ⟨l.toArray⟩ .i64 i Tryz.underlying9, dif_pos ⟨by omega, by rw [hs]; omega⟩, at8_eq hi]
  rfl

set_option maxHeartbeats 4000000 in
set_option maxRecDepth 1000000 in
theorem ref_UTF8 (s : ByteArray) (l : List UInt8) (w : World) (h : RdS s l) :
    Calls Tryz.prog 43 #[.string s] w fun e w' => e = .returned (.bool (utf8 l)) ∧ w = w' := by
  have hlen := h.len
  have hidx := h.idx
  have hsm := h.small
  go_enter Tryz.func43, Tryz.ntmps43
  go_wp2
  go_loop [3] (fun i => ∃ k : Nat, k ≤ l.length ∧ i = .int .i64 k ∧ Hid (utf8 l = utf8 (l.drop k))) (fun i => l.length - (intOf i).toNat)
  case atStart => exact ⟨0, by omega, rfl, Lib.hid (by rw [List.drop_zero])⟩
  case round =>
    obtain ⟨k, hk, rfl, HK⟩ := hrel
    by_cases hlt : k < l.length
    · obtain ⟨c, hc⟩ : ∃ c : Nat, at8 l k = (c : Int) := ⟨(l.getD k 0).toNat, rfl⟩
      have hc1 := at8_hi l k
      have hcc : (l.getD k 0).toNat = c := by unfold at8 at hc; omega
      have HC := Lib.hid hcc
      have hx := hidx k hlt
      rw [hc] at hc1
      clear hcc
      by_cases h1 : c < 128
      · go_wp2
        go_round
        case rel => exact ⟨k + 1, by omega, by go_num, Lib.hid (by rw [HK.out, drop_cons8 hlt, utf8_low (by rw [HC.out]; exact h1)])⟩
        case measure => simp [intOf]; omega
      · by_cases h2 : 194 ≤ c ∧ c < 224
        · obtain ⟨h2a, h2b⟩ := h2
          have hd1 : decide ((c : Int) ≥ 194) = true := decide_eq_true (by omega)
          have hd2 : decide ((c : Int) < 224) = true := decide_eq_true (by omega)
          have hl : leadOf c = some (1, c % 32, 128) := by unfold leadOf; rw [if_pos (by omega)]
          have HK2 := Lib.hid (show utf8 l = (match utf8V 1 (c % 32) (l.drop (k + 1)) with
                  | none => false
                  | some v => runeOK 128 v && utf8 ((l.drop (k + 1)).drop 1)) by rw [HK.out, drop_cons8 hlt]; exact utf8_lead (by rw [HC.out]; omega) (by rw [HC.out]; exact hl))
          have hm : (c : Int) % 32 = ((c % 32 : Nat) : Int) := by omega
          have hmlt : c % 32 < 32 := by omega
          obtain ⟨m, hmm⟩ : ∃ m, m = c % 32 := ⟨_, rfl⟩
          rw [← hmm] at hm hmlt HK2
          clear hl hmm HK
          go_wp2
          go_loop [4, 7] (fun cc qq => ∃ q cv : Nat, 1 ≤ q ∧ q ≤ 2 ∧ k + q ≤ l.length ∧ qq = .int .i64 q ∧ cc = .int .i64 cv ∧ Hid ((q = 1 ∧ cv ≤ 31) ∨ (q = 2 ∧ cv ≤ 2047) ∨ (q = 3 ∧ cv ≤ 131071) ∨ (q = 4 ∧ cv ≤ 8388607)) ∧ Hid (utf8V 1 m (l.drop (k + 1)) = utf8V (2 - q) cv (l.drop (k + q)))) (fun _ qq => 2 - (intOf qq).toNat)
          case atStart => exact ⟨1, m, by omega, by omega, by omega, rfl, rfl, Lib.hid (.inl ⟨rfl, by omega⟩), Lib.hid rfl⟩
          case round =>
            obtain ⟨q, cv, hq1, hq2, hq3, rfl, rfl, HBD, HV⟩ := hrel
            have hcv : cv ≤ 8388607 := by have := HBD.out; omega
            by_cases hqn : q ≤ 1
            · by_cases hlq : k + q < l.length
              · have hx2 := hidx (k + q) hlq
                rw [show ((k + q : Nat) : Int) = (k : Int) + (q : Int) from by omega] at hx2
                obtain ⟨d, hd⟩ : ∃ d : Nat, at8 l (k + q) = (d : Int) := ⟨(l.getD (k + q) 0).toNat, rfl⟩
                have hd2 : (l.getD (k + q) 0).toNat = d := by unfold at8 at hd; omega
                have hd3 := at8_hi l (k + q)
                rw [hd] at hx2 hd3
                have hnx := utf8V_next (n := 1 - q) (c := cv) hlq
                rw [hd2] at hnx
                have HN := Lib.hid hnx
                clear hd hd2 hnx
                have hge : ¬ (k : Int) + (q : Int) ≥ (l.length : Int) := by omega
                by_cases h2 : d / 64 = 2
                · have h2' : (((d : Int) / 64) != 2) = false := by simp; omega
                  have h2'' : ((d : Int) / 64) = 2 := by omega
                  obtain ⟨r, hr⟩ : ∃ r, r = d % 64 := ⟨_, rfl⟩
                  have hdm : (d : Int) % 64 = (r : Int) := by omega
                  have hr64 : r < 64 := by omega
                  have HRR := Lib.hid hr
                  clear hr
                  go_wp2
                  go_round
                  case rel => exact ⟨q + 1, 64 * cv + r, by omega, by omega, by omega, by go_num, by go_num, Lib.hid (by have := HBD.out; omega), Lib.hid (by rw [HV.out, show 2 - q = (1 - q) + 1 from by omega, HN.out, if_pos h2, ← HRR.out, show 2 - (q + 1) = 1 - q from by omega, Nat.add_assoc])⟩
                  case measure => simp [intOf]; omega
                · have h2' : (((d : Int) / 64) != 2) = true := by simp; omega
                  have hf : utf8 l = false := by rw [HK2.out, HV.out, show 2 - q = (1 - q) + 1 from by omega, HN.out, if_neg h2]
                  have HF := Lib.hid hf
                  clear hf
                  go_wp2
                  go_ret
                  refine ⟨?_, rfl⟩
                  rw [HF.out]
                  rfl
              · have hge : (k : Int) + (q : Int) ≥ (l.length : Int) := by omega
                have hf : utf8 l = false := by rw [HK2.out, HV.out, show 2 - q = (1 - q) + 1 from by omega, utf8V_end (by omega)]
                have HF := Lib.hid hf
                clear hf
                go_wp2
                go_ret
                refine ⟨?_, rfl⟩
                rw [HF.out]
                rfl
            · obtain rfl : q = 2 := by omega
              have hv : utf8V 1 m (l.drop (k + 1)) = some cv := by rw [HV.out]; rfl
              have hu : utf8 l = (runeOK 128 cv && utf8 (l.drop (k + 2))) := by rw [HK2.out, hv, List.drop_drop]
              have HU := Lib.hid hu
              clear hv hu
              by_cases ho : runeOK 128 cv = true
              · have HO := Lib.hid ho
                have ho2 := ho
                simp only [runeOK, Bool.not_eq_true', Bool.or_eq_false_iff, Bool.and_eq_false_iff, decide_eq_false_iff_not] at ho2
                obtain ⟨⟨o1, o2⟩, o3⟩ := ho2
                clear ho
                have e1 : decide ((cv : Int) < 128) = false := decide_eq_false (by omega)
                have e2 : decide ((cv : Int) > 1114111) = false := decide_eq_false (by omega)
                by_cases o4 : 55296 ≤ cv
                · have o5 : ¬ cv < 57344 := by omega
                  have e3 : decide ((cv : Int) ≥ 55296) = true := decide_eq_true (by omega)
                  have e4 : decide ((cv : Int) < 57344) = false := decide_eq_false (by omega)
                  go_wp2
                  go_round
                  case rel => exact ⟨k + 2, by omega, by go_num, Lib.hid (by rw [HU.out, HO.out]; rfl)⟩
                  case measure => simp [intOf]; omega
                · have e3 : decide ((cv : Int) ≥ 55296) = false := decide_eq_false (by omega)
                  go_wp2
                  go_round
                  case rel => exact ⟨k + 2, by omega, by go_num, Lib.hid (by rw [HU.out, HO.out]; rfl)⟩
                  case measure => simp [intOf]; omega
              · have hf : utf8 l = false := by rw [HU.out, Bool.eq_false_iff.2 ho]; rfl
                have HF := Lib.hid hf
                clear hf
                by_cases o1 : cv < 128
                · have e1 : decide ((cv : Int) < 128) = true := decide_eq_true (by omega)
                  go_wp2
                  go_ret
                  refine ⟨?_, rfl⟩
                  rw [HF.out]
                  rfl
                · have e1 : decide ((cv : Int) < 128) = false := decide_eq_false (by omega)
                  by_cases o2 : 1114111 < cv
                  · have e2 : decide ((cv : Int) > 1114111) = true := decide_eq_true (by omega)
                    go_wp2
                    go_ret
                    refine ⟨?_, rfl⟩
                    rw [HF.out]
                    rfl
                  · have o3 : 55296 ≤ cv ∧ cv < 57344 := by
                      refine Decidable.of_not_not fun o3 => ho ?_
                      simp only [runeOK, Bool.not_eq_true', Bool.or_eq_false_iff, Bool.and_eq_false_iff, decide_eq_false_iff_not]
                      omega
                    obtain ⟨o4, o5⟩ := o3
                    have e2 : decide ((cv : Int) > 1114111) = false := decide_eq_false (by omega)
                    have e3 : decide ((cv : Int) ≥ 55296) = true := decide_eq_true (by omega)
                    have e4 : decide ((cv : Int) < 57344) = true := decide_eq_true (by omega)
                    go_wp2
                    go_ret
                    refine ⟨?_, rfl⟩
                    rw [HF.out]
                    rfl
        · have hd1 : (decide ((c : Int) ≥ 194) && decide ((c : Int) < 224)) = false := by simp; omega
          by_cases h3 : 224 ≤ c ∧ c < 240
          · obtain ⟨h3a, h3b⟩ := h3
            have hd3 : decide ((c : Int) ≥ 194) = true := decide_eq_true (by omega)
            have hd4 : decide ((c : Int) < 224) = false := decide_eq_false (by omega)
            have hd5 : decide ((c : Int) ≥ 224) = true := decide_eq_true (by omega)
            have hd6 : decide ((c : Int) < 240) = true := decide_eq_true (by omega)
            have hl : leadOf c = some (2, c % 16, 2048) := by unfold leadOf; rw [if_neg (by omega), if_pos (by omega)]
            have HK2 := Lib.hid (show utf8 l = (match utf8V 2 (c % 16) (l.drop (k + 1)) with
                    | none => false
                    | some v => runeOK 2048 v && utf8 ((l.drop (k + 1)).drop 2)) by rw [HK.out, drop_cons8 hlt]; exact utf8_lead (by rw [HC.out]; omega) (by rw [HC.out]; exact hl))
            have hm : (c : Int) % 16 = ((c % 16 : Nat) : Int) := by omega
            have hmlt : c % 16 < 32 := by omega
            obtain ⟨m, hmm⟩ : ∃ m, m = c % 16 := ⟨_, rfl⟩
            rw [← hmm] at hm hmlt HK2
            clear hl hmm HK
            go_wp2
            go_loop [4, 7] (fun cc qq => ∃ q cv : Nat, 1 ≤ q ∧ q ≤ 3 ∧ k + q ≤ l.length ∧ qq = .int .i64 q ∧ cc = .int .i64 cv ∧ Hid ((q = 1 ∧ cv ≤ 31) ∨ (q = 2 ∧ cv ≤ 2047) ∨ (q = 3 ∧ cv ≤ 131071) ∨ (q = 4 ∧ cv ≤ 8388607)) ∧ Hid (utf8V 2 m (l.drop (k + 1)) = utf8V (3 - q) cv (l.drop (k + q)))) (fun _ qq => 3 - (intOf qq).toNat)
            case atStart => exact ⟨1, m, by omega, by omega, by omega, rfl, rfl, Lib.hid (.inl ⟨rfl, by omega⟩), Lib.hid rfl⟩
            case round =>
              obtain ⟨q, cv, hq1, hq2, hq3, rfl, rfl, HBD, HV⟩ := hrel
              have hcv : cv ≤ 8388607 := by have := HBD.out; omega
              by_cases hqn : q ≤ 2
              · by_cases hlq : k + q < l.length
                · have hx2 := hidx (k + q) hlq
                  rw [show ((k + q : Nat) : Int) = (k : Int) + (q : Int) from by omega] at hx2
                  obtain ⟨d, hd⟩ : ∃ d : Nat, at8 l (k + q) = (d : Int) := ⟨(l.getD (k + q) 0).toNat, rfl⟩
                  have hd2 : (l.getD (k + q) 0).toNat = d := by unfold at8 at hd; omega
                  have hd3 := at8_hi l (k + q)
                  rw [hd] at hx2 hd3
                  have hnx := utf8V_next (n := 2 - q) (c := cv) hlq
                  rw [hd2] at hnx
                  have HN := Lib.hid hnx
                  clear hd hd2 hnx
                  have hge : ¬ (k : Int) + (q : Int) ≥ (l.length : Int) := by omega
                  by_cases h2 : d / 64 = 2
                  · have h2' : (((d : Int) / 64) != 2) = false := by simp; omega
                    have h2'' : ((d : Int) / 64) = 2 := by omega
                    obtain ⟨r, hr⟩ : ∃ r, r = d % 64 := ⟨_, rfl⟩
                    have hdm : (d : Int) % 64 = (r : Int) := by omega
                    have hr64 : r < 64 := by omega
                    have HRR := Lib.hid hr
                    clear hr
                    go_wp2
                    go_round
                    case rel => exact ⟨q + 1, 64 * cv + r, by omega, by omega, by omega, by go_num, by go_num, Lib.hid (by have := HBD.out; omega), Lib.hid (by rw [HV.out, show 3 - q = (2 - q) + 1 from by omega, HN.out, if_pos h2, ← HRR.out, show 3 - (q + 1) = 2 - q from by omega, Nat.add_assoc])⟩
                    case measure => simp [intOf]; omega
                  · have h2' : (((d : Int) / 64) != 2) = true := by simp; omega
                    have hf : utf8 l = false := by rw [HK2.out, HV.out, show 3 - q = (2 - q) + 1 from by omega, HN.out, if_neg h2]
                    have HF := Lib.hid hf
                    clear hf
                    go_wp2
                    go_ret
                    refine ⟨?_, rfl⟩
                    rw [HF.out]
                    rfl
                · have hge : (k : Int) + (q : Int) ≥ (l.length : Int) := by omega
                  have hf : utf8 l = false := by rw [HK2.out, HV.out, show 3 - q = (2 - q) + 1 from by omega, utf8V_end (by omega)]
                  have HF := Lib.hid hf
                  clear hf
                  go_wp2
                  go_ret
                  refine ⟨?_, rfl⟩
                  rw [HF.out]
                  rfl
              · obtain rfl : q = 3 := by omega
                have hv : utf8V 2 m (l.drop (k + 1)) = some cv := by rw [HV.out]; rfl
                have hu : utf8 l = (runeOK 2048 cv && utf8 (l.drop (k + 3))) := by rw [HK2.out, hv, List.drop_drop]
                have HU := Lib.hid hu
                clear hv hu
                by_cases ho : runeOK 2048 cv = true
                · have HO := Lib.hid ho
                  have ho2 := ho
                  simp only [runeOK, Bool.not_eq_true', Bool.or_eq_false_iff, Bool.and_eq_false_iff, decide_eq_false_iff_not] at ho2
                  obtain ⟨⟨o1, o2⟩, o3⟩ := ho2
                  clear ho
                  have e1 : decide ((cv : Int) < 2048) = false := decide_eq_false (by omega)
                  have e2 : decide ((cv : Int) > 1114111) = false := decide_eq_false (by omega)
                  by_cases o4 : 55296 ≤ cv
                  · have o5 : ¬ cv < 57344 := by omega
                    have e3 : decide ((cv : Int) ≥ 55296) = true := decide_eq_true (by omega)
                    have e4 : decide ((cv : Int) < 57344) = false := decide_eq_false (by omega)
                    go_wp2
                    go_round
                    case rel => exact ⟨k + 3, by omega, by go_num, Lib.hid (by rw [HU.out, HO.out]; rfl)⟩
                    case measure => simp [intOf]; omega
                  · have e3 : decide ((cv : Int) ≥ 55296) = false := decide_eq_false (by omega)
                    go_wp2
                    go_round
                    case rel => exact ⟨k + 3, by omega, by go_num, Lib.hid (by rw [HU.out, HO.out]; rfl)⟩
                    case measure => simp [intOf]; omega
                · have hf : utf8 l = false := by rw [HU.out, Bool.eq_false_iff.2 ho]; rfl
                  have HF := Lib.hid hf
                  clear hf
                  by_cases o1 : cv < 2048
                  · have e1 : decide ((cv : Int) < 2048) = true := decide_eq_true (by omega)
                    go_wp2
                    go_ret
                    refine ⟨?_, rfl⟩
                    rw [HF.out]
                    rfl
                  · have e1 : decide ((cv : Int) < 2048) = false := decide_eq_false (by omega)
                    by_cases o2 : 1114111 < cv
                    · have e2 : decide ((cv : Int) > 1114111) = true := decide_eq_true (by omega)
                      go_wp2
                      go_ret
                      refine ⟨?_, rfl⟩
                      rw [HF.out]
                      rfl
                    · have o3 : 55296 ≤ cv ∧ cv < 57344 := by
                        refine Decidable.of_not_not fun o3 => ho ?_
                        simp only [runeOK, Bool.not_eq_true', Bool.or_eq_false_iff, Bool.and_eq_false_iff, decide_eq_false_iff_not]
                        omega
                      obtain ⟨o4, o5⟩ := o3
                      have e2 : decide ((cv : Int) > 1114111) = false := decide_eq_false (by omega)
                      have e3 : decide ((cv : Int) ≥ 55296) = true := decide_eq_true (by omega)
                      have e4 : decide ((cv : Int) < 57344) = true := decide_eq_true (by omega)
                      go_wp2
                      go_ret
                      refine ⟨?_, rfl⟩
                      rw [HF.out]
                      rfl
          · by_cases h4 : 240 ≤ c ∧ c < 245
            · obtain ⟨h4a, h4b⟩ := h4
              have hd3 : decide ((c : Int) ≥ 194) = true := decide_eq_true (by omega)
              have hd4 : decide ((c : Int) < 224) = false := decide_eq_false (by omega)
              have hd5 : decide ((c : Int) ≥ 224) = true := decide_eq_true (by omega)
              have hd6 : decide ((c : Int) < 240) = false := decide_eq_false (by omega)
              have hd7 : decide ((c : Int) ≥ 240) = true := decide_eq_true (by omega)
              have hd8 : decide ((c : Int) < 245) = true := decide_eq_true (by omega)
              have hl : leadOf c = some (3, c % 8, 65536) := by unfold leadOf; rw [if_neg (by omega), if_neg (by omega), if_pos (by omega)]
              have HK2 := Lib.hid (show utf8 l = (match utf8V 3 (c % 8) (l.drop (k + 1)) with
                      | none => false
                      | some v => runeOK 65536 v && utf8 ((l.drop (k + 1)).drop 3)) by rw [HK.out, drop_cons8 hlt]; exact utf8_lead (by rw [HC.out]; omega) (by rw [HC.out]; exact hl))
              have hm : (c : Int) % 8 = ((c % 8 : Nat) : Int) := by omega
              have hmlt : c % 8 < 32 := by omega
              obtain ⟨m, hmm⟩ : ∃ m, m = c % 8 := ⟨_, rfl⟩
              rw [← hmm] at hm hmlt HK2
              clear hl hmm HK
              go_wp2
              go_loop [4, 7] (fun cc qq => ∃ q cv : Nat, 1 ≤ q ∧ q ≤ 4 ∧ k + q ≤ l.length ∧ qq = .int .i64 q ∧ cc = .int .i64 cv ∧ Hid ((q = 1 ∧ cv ≤ 31) ∨ (q = 2 ∧ cv ≤ 2047) ∨ (q = 3 ∧ cv ≤ 131071) ∨ (q = 4 ∧ cv ≤ 8388607)) ∧ Hid (utf8V 3 m (l.drop (k + 1)) = utf8V (4 - q) cv (l.drop (k + q)))) (fun _ qq => 4 - (intOf qq).toNat)
              case atStart => exact ⟨1, m, by omega, by omega, by omega, rfl, rfl, Lib.hid (.inl ⟨rfl, by omega⟩), Lib.hid rfl⟩
              case round =>
                obtain ⟨q, cv, hq1, hq2, hq3, rfl, rfl, HBD, HV⟩ := hrel
                have hcv : cv ≤ 8388607 := by have := HBD.out; omega
                by_cases hqn : q ≤ 3
                · by_cases hlq : k + q < l.length
                  · have hx2 := hidx (k + q) hlq
                    rw [show ((k + q : Nat) : Int) = (k : Int) + (q : Int) from by omega] at hx2
                    obtain ⟨d, hd⟩ : ∃ d : Nat, at8 l (k + q) = (d : Int) := ⟨(l.getD (k + q) 0).toNat, rfl⟩
                    have hd2 : (l.getD (k + q) 0).toNat = d := by unfold at8 at hd; omega
                    have hd3 := at8_hi l (k + q)
                    rw [hd] at hx2 hd3
                    have hnx := utf8V_next (n := 3 - q) (c := cv) hlq
                    rw [hd2] at hnx
                    have HN := Lib.hid hnx
                    clear hd hd2 hnx
                    have hge : ¬ (k : Int) + (q : Int) ≥ (l.length : Int) := by omega
                    by_cases h2 : d / 64 = 2
                    · have h2' : (((d : Int) / 64) != 2) = false := by simp; omega
                      have h2'' : ((d : Int) / 64) = 2 := by omega
                      obtain ⟨r, hr⟩ : ∃ r, r = d % 64 := ⟨_, rfl⟩
                      have hdm : (d : Int) % 64 = (r : Int) := by omega
                      have hr64 : r < 64 := by omega
                      have HRR := Lib.hid hr
                      clear hr
                      go_wp2
                      go_round
                      case rel => exact ⟨q + 1, 64 * cv + r, by omega, by omega, by omega, by go_num, by go_num, Lib.hid (by have := HBD.out; omega), Lib.hid (by rw [HV.out, show 4 - q = (3 - q) + 1 from by omega, HN.out, if_pos h2, ← HRR.out, show 4 - (q + 1) = 3 - q from by omega, Nat.add_assoc])⟩
                      case measure => simp [intOf]; omega
                    · have h2' : (((d : Int) / 64) != 2) = true := by simp; omega
                      have hf : utf8 l = false := by rw [HK2.out, HV.out, show 4 - q = (3 - q) + 1 from by omega, HN.out, if_neg h2]
                      have HF := Lib.hid hf
                      clear hf
                      go_wp2
                      go_ret
                      refine ⟨?_, rfl⟩
                      rw [HF.out]
                      rfl
                  · have hge : (k : Int) + (q : Int) ≥ (l.length : Int) := by omega
                    have hf : utf8 l = false := by rw [HK2.out, HV.out, show 4 - q = (3 - q) + 1 from by omega, utf8V_end (by omega)]
                    have HF := Lib.hid hf
                    clear hf
                    go_wp2
                    go_ret
                    refine ⟨?_, rfl⟩
                    rw [HF.out]
                    rfl
                · obtain rfl : q = 4 := by omega
                  have hv : utf8V 3 m (l.drop (k + 1)) = some cv := by rw [HV.out]; rfl
                  have hu : utf8 l = (runeOK 65536 cv && utf8 (l.drop (k + 4))) := by rw [HK2.out, hv, List.drop_drop]
                  have HU := Lib.hid hu
                  clear hv hu
                  by_cases ho : runeOK 65536 cv = true
                  · have HO := Lib.hid ho
                    have ho2 := ho
                    simp only [runeOK, Bool.not_eq_true', Bool.or_eq_false_iff, Bool.and_eq_false_iff, decide_eq_false_iff_not] at ho2
                    obtain ⟨⟨o1, o2⟩, o3⟩ := ho2
                    clear ho
                    have e1 : decide ((cv : Int) < 65536) = false := decide_eq_false (by omega)
                    have e2 : decide ((cv : Int) > 1114111) = false := decide_eq_false (by omega)
                    by_cases o4 : 55296 ≤ cv
                    · have o5 : ¬ cv < 57344 := by omega
                      have e3 : decide ((cv : Int) ≥ 55296) = true := decide_eq_true (by omega)
                      have e4 : decide ((cv : Int) < 57344) = false := decide_eq_false (by omega)
                      go_wp2
                      go_round
                      case rel => exact ⟨k + 4, by omega, by go_num, Lib.hid (by rw [HU.out, HO.out]; rfl)⟩
                      case measure => simp [intOf]; omega
                    · have e3 : decide ((cv : Int) ≥ 55296) = false := decide_eq_false (by omega)
                      go_wp2
                      go_round
                      case rel => exact ⟨k + 4, by omega, by go_num, Lib.hid (by rw [HU.out, HO.out]; rfl)⟩
                      case measure => simp [intOf]; omega
                  · have hf : utf8 l = false := by rw [HU.out, Bool.eq_false_iff.2 ho]; rfl
                    have HF := Lib.hid hf
                    clear hf
                    by_cases o1 : cv < 65536
                    · have e1 : decide ((cv : Int) < 65536) = true := decide_eq_true (by omega)
                      go_wp2
                      go_ret
                      refine ⟨?_, rfl⟩
                      rw [HF.out]
                      rfl
                    · have e1 : decide ((cv : Int) < 65536) = false := decide_eq_false (by omega)
                      by_cases o2 : 1114111 < cv
                      · have e2 : decide ((cv : Int) > 1114111) = true := decide_eq_true (by omega)
                        go_wp2
                        go_ret
                        refine ⟨?_, rfl⟩
                        rw [HF.out]
                        rfl
                      · have o3 : 55296 ≤ cv ∧ cv < 57344 := by
                          refine Decidable.of_not_not fun o3 => ho ?_
                          simp only [runeOK, Bool.not_eq_true', Bool.or_eq_false_iff, Bool.and_eq_false_iff, decide_eq_false_iff_not]
                          omega
                        obtain ⟨o4, o5⟩ := o3
                        have e2 : decide ((cv : Int) > 1114111) = false := decide_eq_false (by omega)
                        have e3 : decide ((cv : Int) ≥ 55296) = true := decide_eq_true (by omega)
                        have e4 : decide ((cv : Int) < 57344) = true := decide_eq_true (by omega)
                        go_wp2
                        go_ret
                        refine ⟨?_, rfl⟩
                        rw [HF.out]
                        rfl
            · have hl : leadOf c = none := by unfold leadOf; rw [if_neg h2, if_neg h3, if_neg h4]
              have HF := Lib.hid (show utf8 l = false by rw [HK.out, drop_cons8 hlt]; exact utf8_none (by rw [HC.out]; omega) (by rw [HC.out]; exact hl))
              clear hl
              by_cases h5 : c < 194
              · have hd3 : decide ((c : Int) ≥ 194) = false := decide_eq_false (by omega)
                have hd5 : decide ((c : Int) ≥ 224) = false := decide_eq_false (by omega)
                have hd7 : decide ((c : Int) ≥ 240) = false := decide_eq_false (by omega)
                go_wp2
                go_ret
                refine ⟨?_, rfl⟩
                rw [HF.out]
                rfl
              · have hd3 : decide ((c : Int) ≥ 194) = true := decide_eq_true (by omega)
                have hd4 : decide ((c : Int) < 224) = false := decide_eq_false (by omega)
                have hd5 : decide ((c : Int) ≥ 224) = true := decide_eq_true (by omega)
                have hd6 : decide ((c : Int) < 240) = false := decide_eq_false (by omega)
                have hd7 : decide ((c : Int) ≥ 240) = true := decide_eq_true (by omega)
                have hd8 : decide ((c : Int) < 245) = false := decide_eq_false (by omega)
                go_wp2
                go_ret
                refine ⟨?_, rfl⟩
                rw [HF.out]
                rfl
    · obtain rfl : k = l.length := by omega
      have HF := Lib.hid (show utf8 l = true by rw [HK.out, List.drop_length, utf8_nil])
      go_wp2
      go_ret
      refine ⟨?_, rfl⟩
      rw [HF.out]
      rfl

end Go.Proofs.YtkljkpffpdpphaaGreatDoor
