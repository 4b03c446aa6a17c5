/-
  The library's ParseUint at base 16.
-/
import Derived.Test.YtdegeifklchjaaaGreatDoorCellNum
import Derived.Lib.AtoiAll
import Derived.Shelf.Strconv.ToErrorRange
set_option linter.unusedVariables false
set_option linter.unusedSimpArgs false
set_option maxRecDepth 1000000
namespace Go.Proofs.YtdegeifklchjaaaGreatDoor
open Go.RowKit Go.Shelf

/-- What a sign is worth at base 16. -/
def digX (c : Nat) : Option Nat := if 48 ≤ c ∧ c ≤ 57 then some (c - 48) else if 97 ≤ c ||| 32 ∧ c ||| 32 ≤ 102 then some ((c ||| 32) - 87) else none
def parseX : Nat → List UInt8 → Lib.NumEnd Nat
  | acc, [] => .ok acc
  | acc, c :: r => match digX c.toNat with
    | none => .«syntax»
    | some d => if 1152921504606846976 ≤ acc then .range else parseX (acc * 16 + d) r
def endX : Lib.NumEnd Nat → Value
  | .ok u => .tuple #[.int .u64 (u : Int), .nilIface]
  | .«syntax» => .tuple #[.int .u64 0, .iface 133 (.int .i64 2)]
  | .range => .tuple #[.int .u64 18446744073709551615, .iface 133 (.int .i64 1)]

theorem parseX_digit {acc : Nat} {c : UInt8} {r : List UInt8} {d : Nat} (h : digX c.toNat = some d) : parseX acc (c :: r) = if 1152921504606846976 ≤ acc then .range else parseX (acc * 16 + d) r := by rw [parseX, h]
theorem parseX_none {acc : Nat} {c : UInt8} {r : List UInt8} (h : digX c.toNat = none) : parseX acc (c :: r) = .«syntax» := by rw [parseX, h]

theorem lib_lower (c : Nat) (hc : c < 256) (w : World) : Calls Tryz.prog 97 #[.int .u8 (c : Int)] w fun e w' => e = .returned (.int .u8 ((c ||| 32 : Nat) : Int)) ∧ w' = w := by
  have h := u8_or_nat c 32 hc (by omega)
  rw [show ((32 : Nat) : Int) = 32 from rfl] at h
  go_enter Tryz.func97, Tryz.ntmps97
  go_wp2
  go_ret
  exact ⟨rfl, rfl⟩

theorem or32_lt {c : Nat} (hc : c < 256) : c ||| 32 < 256 := Nat.or_lt_two_pow (n := 8) hc (by decide)

set_option maxHeartbeats 8000000 in
theorem intl_ParseHex (t : ByteArray) (l : List UInt8) (hR : RdS t l) (hne : l ≠ []) (w : World) :
    Calls Tryz.prog 82 #[.string t, .int .i64 16, .int .i64 64] w fun e w' => e = .returned (endX (parseX 0 l)) ∧ Below w.heap.size w w' := by
  have hemp : t.toList.isEmpty = false := by rw [hR.toList]; cases l <;> simp_all
  have hcv := Lib.run_convert_string_bytes (P := Tryz.prog) w 9 63 5 t (u := .string) Tryz.underlying9 Tryz.underlying63 Tryz.underlying5
  have hB : ∀ j, j < t.size → (Lib.bytesWorld w 5 t).cell? ⟨w.heap.size, j, none⟩ = some (.int .u8 (t.data.toList.getD j 0).toNat) := fun j hj => Lib.bytesWorld_cell w 5 t j hj
  have hBW := Lib.hid (Lib.bytesWorld_below w 5 t)
  obtain ⟨W1, hW1⟩ : ∃ W1, W1 = Lib.bytesWorld w 5 t := ⟨_, rfl⟩
  rw [← hW1] at hcv hB hBW
  have hLn : l.length = t.size := by rw [hR.size]
  have hdl := hR.dl
  have hsm := hR.small
  rw [hdl] at hB
  clear hW1 hdl
  have hmv : IntKind.u64.wrap (IntKind.u64.wrap 18446744073709551616 - 1) = 18446744073709551615 := by
    rw [IntKind.wrap_u64, IntKind.wrap_u64]
    decide
  go_enter Tryz.func82, Tryz.ntmps82
  go_wp2
  go_loop [12, 13, 101] (fun vu vn vi => ∃ (k acc : Nat) (a : Int), vu = .bool false ∧ vn = .int .u64 a ∧ vi = .int .i64 k ∧ k ≤ t.size ∧ Hid (a = (acc : Int) ∧ acc < 18446744073709551616 ∧ parseX 0 l = parseX acc (l.drop k)))
    (fun _ _ vi => t.size - (intOf vi).toNat)
  case atStart => exact ⟨0, 0, 0, rfl, rfl, rfl, by omega, rfl, by omega, rfl⟩
  case round =>
    obtain ⟨k, acc, a, rfl, rfl, rfl, hk, hh⟩ := hrel
    obtain ⟨ha, hacc, hdec⟩ := hh.out
    clear hh
    have a0 : 0 ≤ a := by omega
    have a1 : a < 18446744073709551616 := by omega
    by_cases hkn : k < t.size
    · have hc := hB k hkn
      have hdrop : l.drop k = l[k]'(by omega) :: l.drop (k + 1) := List.drop_eq_getElem_cons (by omega)
      have hget : l.getD k 0 = l[k]'(by omega) := by simp [List.getD, List.getElem?_eq_getElem (show k < l.length by omega)]
      rw [hdrop] at hdec
      rw [hget] at hc
      generalize l[k]'(by omega) = c at hc hdec
      have hc256 : c.toNat < 256 := c.toNat_lt
      clear hB hdrop hget
      by_cases hdig : 48 ≤ c.toNat ∧ c.toNat ≤ 57
      · have hdx : digX c.toNat = some (c.toNat - 48) := by unfold digX; rw [if_pos hdig]
        obtain ⟨hd0, hd1⟩ := hdig
        rw [parseX_digit hdx] at hdec
        by_cases hcut : 1152921504606846976 ≤ acc
        · rw [if_pos hcut] at hdec
          have icut : 1152921504606846976 ≤ a := by omega
          have HD := Lib.hid hdec
          clear hcut hacc ha hdx hdec
          go_wp2
          go_ret2
          exact ⟨by rw [HD.out]; rfl, hBW.out⟩
        · rw [if_neg hcut] at hdec
          have HN : Hid (a * 16 + ((c.toNat : Int) - 48) = ((acc * 16 + (c.toNat - 48) : Nat) : Int) ∧ acc * 16 + (c.toNat - 48) < 18446744073709551616 ∧ parseX 0 l = parseX (acc * 16 + (c.toNat - 48)) (l.drop (k + 1))) := Lib.hid ⟨by omega, by omega, hdec⟩
          have icut : a < 1152921504606846976 := by omega
          clear hcut hacc hdec ha hdx
          go_wp2
          refine ⟨⟨k + 1, acc * 16 + (c.toNat - 48), a * 16 + ((c.toNat : Int) - 48), rfl, (by first | rfl | (congr 1; omega)), (by first | rfl | (congr 1; omega)), by omega, HN⟩, by simp [intOf]; omega⟩
      · by_cases h95 : c.toNat = 95
        · have hdx : digX c.toNat = none := by rw [h95]; decide
          have hlow : ∀ W, Calls Tryz.prog 97 #[.int .u8 95] W fun e w' => e = .returned (.int .u8 127) ∧ w' = W := fun W => lib_lower 95 (by omega) W
          rw [parseX_none hdx] at hdec
          rw [h95] at hc
          have hc' : W1.cell? ⟨w.heap.size, k, none⟩ = some (.int .u8 95) := hc
          have HD := Lib.hid hdec
          clear hacc ha hdx hdec hc h95 hdig hc256
          go_wp2_with (go_at_call 97; refine (hlow _).mono ?_; rintro e w' ⟨rfl, rfl⟩)
          go_ret2
          exact ⟨by rw [HD.out]; rfl, hBW.out⟩
        · have hne95 : ((c.toNat : Int) == 95) = false := by simp; omega
          have hlow := lib_lower c.toNat hc256
          have hlo256 := or32_lt hc256
          obtain ⟨lo, hlo⟩ : ∃ lo, c.toNat ||| 32 = lo := ⟨_, rfl⟩
          rw [hlo] at hlow hlo256
          by_cases hx : 97 ≤ lo ∧ lo ≤ 102
          · have hdx : digX c.toNat = some (lo - 87) := by unfold digX; rw [if_neg hdig, hlo, if_pos hx]
            obtain ⟨hx0, hx1⟩ := hx
            rw [parseX_digit hdx] at hdec
            by_cases hcut : 1152921504606846976 ≤ acc
            · rw [if_pos hcut] at hdec
              have icut : 1152921504606846976 ≤ a := by omega
              have HD := Lib.hid hdec
              clear hcut hacc ha hdx hdec hlo
              go_wp2_with (go_at_call 97; refine (hlow _).mono ?_; rintro e w' ⟨rfl, rfl⟩)
              all_goals go_ret2
              all_goals exact ⟨by rw [HD.out]; rfl, hBW.out⟩
            · rw [if_neg hcut] at hdec
              have HN : Hid (a * 16 + ((lo : Int) - 97 + 10) = ((acc * 16 + (lo - 87) : Nat) : Int) ∧ acc * 16 + (lo - 87) < 18446744073709551616 ∧ parseX 0 l = parseX (acc * 16 + (lo - 87)) (l.drop (k + 1))) := Lib.hid ⟨by omega, by omega, hdec⟩
              have icut : a < 1152921504606846976 := by omega
              clear hcut hacc hdec ha hdx hlo
              go_wp2_with (go_at_call 97; refine (hlow _).mono ?_; rintro e w' ⟨rfl, rfl⟩)
              all_goals refine ⟨⟨k + 1, acc * 16 + (lo - 87), a * 16 + ((lo : Int) - 97 + 10), rfl, (by first | rfl | (congr 1; omega)), (by first | rfl | (congr 1; omega)), by omega, HN⟩, by simp [intOf]; omega⟩
          · have hdx : digX c.toNat = none := by unfold digX; rw [if_neg hdig, hlo, if_neg hx]
            rw [parseX_none hdx] at hdec
            have HD := Lib.hid hdec
            clear hacc ha hdx hdec hlo
            go_wp2_with (go_at_call 97; refine (hlow _).mono ?_; rintro e w' ⟨rfl, rfl⟩)
            all_goals first | (exfalso; omega) | skip
            all_goals go_ret2
            all_goals exact ⟨by rw [HD.out]; rfl, hBW.out⟩
    · have hkk : k = t.size := by omega
      subst hkk
      have hF : parseX acc (l.drop t.size) = .ok acc := by rw [List.drop_eq_nil_of_le (by omega)]; rfl
      rw [hF] at hdec
      have HD := Lib.hid hdec
      subst ha
      clear hacc hF a0 a1 hdec
      go_wp2
      go_ret2
      exact ⟨by rw [HD.out]; rfl, hBW.out⟩

end Go.Proofs.YtdegeifklchjaaaGreatDoor
