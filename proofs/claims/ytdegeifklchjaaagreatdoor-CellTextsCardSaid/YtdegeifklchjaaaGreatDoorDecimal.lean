/-
  Decimals as the document's own answer for layer 4 tells them.
-/
import Derived.Test.YtdegeifklchjaaaGreatDoorCellRef
set_option linter.unusedVariables false
set_option linter.unusedSimpArgs false
set_option maxRecDepth 1000000
namespace Go.Proofs.YtdegeifklchjaaaGreatDoor
open Go.RowKit

/-- The decimals of a number. -/
def dec (x : Nat) : List UInt8 := if x < 10 then [UInt8.ofNat (48 + x)] else dec (x / 10) ++ [UInt8.ofNat (48 + x % 10)]
  termination_by x
  decreasing_by omega

theorem dec_lo {x : Nat} (h : x < 10) : dec x = [UInt8.ofNat (48 + x)] := by rw [dec, if_pos h]
theorem dec_hi {x : Nat} (h : ¬ x < 10) : dec x = dec (x / 10) ++ [UInt8.ofNat (48 + x % 10)] := by rw [dec, if_neg h]

theorem dec_len : ∀ (k x : Nat), x < 10 ^ (k + 1) → (dec x).length ≤ k + 1
  | 0, x, h => by rw [dec_lo (by simpa using h)]; simp
  | k + 1, x, h => by
    by_cases h1 : x < 10
    · rw [dec_lo h1]; simp
    · rw [dec_hi h1, List.length_append]
      have := dec_len k (x / 10) (by rw [Nat.div_lt_iff_lt_mul (by decide)]; rw [Nat.pow_succ] at h; exact h)
      simp; omega

/-- The digit's character. -/
def dig (r : Nat) : UInt8 := if r < 10 then UInt8.ofNat (48 + r) else UInt8.ofNat (87 + r)
def digits16 : ByteArray := ⟨#[48, 49, 50, 51, 52, 53, 54, 55, 56, 57, 97, 98, 99, 100, 101, 102]⟩
theorem digit_at {r : Nat} (h : r < 16) : digits16.extract r (r + 1) = ⟨#[dig r]⟩ := by
  obtain rfl | rfl | rfl | rfl | rfl | rfl | rfl | rfl | rfl | rfl | rfl | rfl | rfl | rfl | rfl | rfl : r = 0 ∨ r = 1 ∨ r = 2 ∨ r = 3 ∨ r = 4 ∨ r = 5 ∨ r = 6 ∨ r = 7 ∨ r = 8 ∨ r = 9 ∨ r = 10 ∨ r = 11 ∨ r = 12 ∨ r = 13 ∨ r = 14 ∨ r = 15 := by omega
  all_goals decide

theorem RdS.app {a b : ByteArray} {l m : List UInt8} (ha : RdS a l) (hb : RdS b m) (h : l.length + m.length ≤ 140737488351232) : RdS (a ++ b) (l ++ m) := by
  refine ⟨?_, by simpa using h⟩
  rw [ha.eq, hb.eq, ByteArray.mk_append_mk]
theorem RdS.size {s : ByteArray} {l : List UInt8} (h : RdS s l) : s.size = l.length := by rw [h.eq]; simp [ByteArray.size]

/-- A number for a string's being empty (for a measure). -/
def emptyN : Value → Nat
  | .string s => if s.toList.isEmpty then 1 else 0
  | _ => 0

set_option maxHeartbeats 1000000 in
theorem ref_Decimal (x : Nat) (hx : x < 18446744073709551616) (w : World) :
    Calls Tryz.prog 25 #[.int .u64 (x : Int)] w fun e w' => (∃ s, e = .returned (.string s) ∧ RdS s (dec x)) ∧ w = w' := by
  have hdl := dec_len 19 x (by omega)
  go_enter Tryz.func25, Tryz.ntmps25
  go_wp2
  go_loop [0, 3] (fun a b => ∃ (y : Nat) (s : ByteArray) (l : List UInt8), y < 18446744073709551616 ∧ a = .int .u64 y ∧ b = .string s ∧ Hid (RdS s l) ∧ Hid ((l = [] ∧ y = x) ∨ (l ≠ [] ∧ dec x = (if y = 0 then [] else dec y) ++ l))) (fun a b => 2 * (intOf a).toNat + emptyN b)
  case atStart => exact ⟨x, _, [], hx, rfl, rfl, Lib.hid ⟨rfl, by simp⟩, Lib.hid (.inl ⟨rfl, rfl⟩)⟩
  case round =>
    obtain ⟨y, s, l, hy, rfl, rfl, HS, HL⟩ := hrel
    have hsl := HS.out.toList
    have hll : l.length ≤ 20 := by
      rcases HL.out with ⟨h, _⟩ | ⟨_, h⟩
      · rw [h]; simp
      · have := congrArg List.length h
        rw [List.length_append] at this
        omega
    have hss := HS.out.size
    by_cases hgo : 0 < y ∨ l = []
    · have hm : (y : Int) % 10 = ((y % 10 : Nat) : Int) := by omega
      obtain ⟨r, hr⟩ : ∃ r, r = y % 10 := ⟨_, rfl⟩
      have hr10 : r < 10 := by omega
      rw [← hr] at hm
      have HR := Lib.hid hr
      obtain ⟨d, hd⟩ : ∃ d : ByteArray, d = ⟨#[dig r]⟩ := ⟨_, rfl⟩
      have hext : ({ data := #[48, 49, 50, 51, 52, 53, 54, 55, 56, 57, 97, 98, 99, 100, 101, 102] } : ByteArray).extract r (r + 1) = d := by rw [hd]; exact digit_at (by omega)
      have hdS : RdS d [dig r] := ⟨hd, by simp⟩
      have hds : d.size = 1 := hdS.size
      have hsz : ¬ (d.size + s.size > 9223372036854775807) := by omega
      have HA := Lib.hid (hdS.app HS.out (by rw [show [dig r].length = 1 from rfl]; omega))
      have hdig : dig r = UInt8.ofNat (48 + y % 10) := by unfold dig; rw [if_pos (by omega), hr]
      have hnew : dec x = (if y / 10 = 0 then [] else dec (y / 10)) ++ ([dig r] ++ l) := by
        have hdy : dec y = (if y / 10 = 0 then [] else dec (y / 10)) ++ [dig r] := by
          by_cases h10 : y < 10
          · rw [dec_lo h10, if_pos (by omega), hdig, List.nil_append, Nat.mod_eq_of_lt h10]
          · rw [dec_hi h10, if_neg (by omega), hdig]
        rcases HL.out with ⟨h1, h2⟩ | ⟨h1, h2⟩
        · rw [h1, ← h2, hdy, List.append_nil]
        · rw [h2, if_neg (fun hy0 => by rcases hgo with h | h; (· omega); exact absurd h h1), hdy, List.append_assoc]
      have HN := Lib.hid hnew
      have hemp : s.toList.isEmpty = true ↔ l = [] := by rw [hsl]; simp
      have HEM := Lib.hid hemp
      clear hr hd hdS hdig hnew hemp hsl hss hds
      have hmz : ∀ b, emptyN (.string (d ++ s)) = b → b = 0 := fun b hb => by
        rw [← hb]
        show (if (d ++ s).toList.isEmpty = true then 1 else 0) = 0
        rw [if_neg (by rw [HA.out.toList]; simp)]
      have HMZ := Lib.hid hmz
      clear hmz
      by_cases h0 : 0 < y
      · have hdd : decide ((y : Int) > 0) = true := decide_eq_true (by omega)
        go_wp2
        go_round
        case rel => exact ⟨y / 10, d ++ s, [dig r] ++ l, by omega, by go_num, rfl, HA, Lib.hid (.inr ⟨by simp, HN.out⟩)⟩
        case measure =>
          have := HMZ.out _ rfl
          simp only [intOf]
          omega
      · have hle : l = [] := by rcases hgo with h | h; · omega
                                · exact h
        have hdd : decide ((y : Int) > 0) = false := decide_eq_false (by omega)
        have hsem : s.toList.isEmpty = true := HEM.out.2 hle
        go_wp2
        go_round
        case rel => exact ⟨y / 10, d ++ s, [dig r] ++ l, by omega, by go_num, rfl, HA, Lib.hid (.inr ⟨by simp, HN.out⟩)⟩
        case measure =>
          have := HMZ.out _ rfl
          have h2 : emptyN (.string s) = 1 := by show (if s.toList.isEmpty = true then 1 else 0) = 1; rw [if_pos hsem]
          simp only [intOf]
          omega
    · have hy0 : y = 0 := by omega
      subst hy0
      have hln : ¬ l = [] := fun h => hgo (.inr h)
      have hse : s.toList.isEmpty = false := by rw [hsl]; cases l <;> simp_all
      have hfin : dec x = l := by
        rcases HL.out with ⟨h, _⟩ | ⟨_, h⟩
        · exact absurd h hln
        · rw [h]; simp
      have HF := Lib.hid hfin
      clear hfin hln hgo hsl
      go_wp2
      go_ret
      exact ⟨⟨s, rfl, by rw [HF.out]; exact HS.out⟩, rfl⟩

end Go.Proofs.YtdegeifklchjaaaGreatDoor
