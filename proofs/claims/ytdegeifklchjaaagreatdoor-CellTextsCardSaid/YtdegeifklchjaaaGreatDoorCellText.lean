/-
  A cell's text, as the document's own answer for layer 4 tells it.
-/
import Derived.Test.YtdegeifklchjaaaGreatDoorUnhex
set_option linter.unusedVariables false
set_option linter.unusedSimpArgs false
set_option maxRecDepth 1000000
namespace Go.Proofs.YtdegeifklchjaaaGreatDoor
open Go.RowKit

/-- n digits to the base 16. -/
def hexN : Nat → Nat → List UInt8
  | 0, _ => []
  | n + 1, x => hexN n (x / 16) ++ [dig (x % 16)]

theorem hexN_len : ∀ (n x : Nat), (hexN n x).length = n
  | 0, x => rfl
  | n + 1, x => by rw [hexN, List.length_append, hexN_len]; rfl

def textC (kind : Int) (x : Nat) (l : List UInt8) : List UInt8 :=
  if kind = 0 then sdec (wrap64 (x : Int)) else if kind = 1 then dec x else if kind = 2 then (if x = 0 then [102, 97, 108, 115, 101] else [116, 114, 117, 101]) else if kind = 5 then hexN 16 x else hexC l

set_option maxHeartbeats 2000000 in
set_option maxRecDepth 1000000 in
theorem ref_Text0 (x : Nat) (hx : x < 18446744073709551616) (s : ByteArray) (l : List UInt8) (w : World) (hs : RdS s l) (hb : l.length ≤ 70368744175616) :
    Calls Tryz.prog 9 #[.int .i64 0, cellV x s] w fun e w' => (∃ t, e = .returned (.string t) ∧ RdS t (sdec (wrap64 (x : Int)))) ∧ Below w.heap.size w w' := by
  have hbl : Below w.heap.size w (w.alloc (.cells #[.int .u64 (x : Int), .string s] 24)) := (Below.refl _ w).alloc (Nat.le_refl _) _
  have HB := Lib.hid hbl
  have HS := Lib.hid hs
  clear hbl hs
  unfold cellV
  go_enter Tryz.func9, Tryz.ntmps9
  go_wp2_with fail
  refine (ref_Signed _ (by unfold wrap64; omega) (by unfold wrap64; omega) _).mono ?_
  rintro e w1 ⟨⟨t, rfl, ht⟩, rfl⟩
  go_wp2
  go_ret
  exact ⟨⟨_, rfl, ht⟩, HB.out⟩

set_option maxHeartbeats 2000000 in
set_option maxRecDepth 1000000 in
theorem ref_Text1 (x : Nat) (hx : x < 18446744073709551616) (s : ByteArray) (l : List UInt8) (w : World) (hs : RdS s l) (hb : l.length ≤ 70368744175616) :
    Calls Tryz.prog 9 #[.int .i64 1, cellV x s] w fun e w' => (∃ t, e = .returned (.string t) ∧ RdS t (dec x)) ∧ Below w.heap.size w w' := by
  have hbl : Below w.heap.size w (w.alloc (.cells #[.int .u64 (x : Int), .string s] 24)) := (Below.refl _ w).alloc (Nat.le_refl _) _
  have HB := Lib.hid hbl
  have HS := Lib.hid hs
  clear hbl hs
  unfold cellV
  go_enter Tryz.func9, Tryz.ntmps9
  go_wp2_with fail
  refine (ref_Decimal x hx _).mono ?_
  rintro e w1 ⟨⟨t, rfl, ht⟩, rfl⟩
  go_wp2
  go_ret
  exact ⟨⟨_, rfl, ht⟩, HB.out⟩

set_option maxHeartbeats 2000000 in
set_option maxRecDepth 1000000 in
theorem ref_Text3 (x : Nat) (hx : x < 18446744073709551616) (s : ByteArray) (l : List UInt8) (w : World) (hs : RdS s l) (hb : l.length ≤ 70368744175616) :
    Calls Tryz.prog 9 #[.int .i64 3, cellV x s] w fun e w' => (∃ t, e = .returned (.string t) ∧ RdS t (hexC l)) ∧ Below w.heap.size w w' := by
  have hbl : Below w.heap.size w (w.alloc (.cells #[.int .u64 (x : Int), .string s] 24)) := (Below.refl _ w).alloc (Nat.le_refl _) _
  have HB := Lib.hid hbl
  have HS := Lib.hid hs
  clear hbl hs
  unfold cellV
  go_enter Tryz.func9, Tryz.ntmps9
  go_wp2_with fail
  refine (ref_Hex s l _ HS.out hb).mono ?_
  rintro e w1 ⟨⟨t, rfl, ht⟩, hb1⟩
  have HB1 := Lib.hid hb1
  clear hb1
  go_wp2
  go_ret
  exact ⟨⟨_, rfl, ht⟩, HB.out.trans (HB1.out.mono (by simp))⟩

set_option maxHeartbeats 2000000 in
set_option maxRecDepth 1000000 in
theorem ref_Text4 (x : Nat) (hx : x < 18446744073709551616) (s : ByteArray) (l : List UInt8) (w : World) (hs : RdS s l) (hb : l.length ≤ 70368744175616) :
    Calls Tryz.prog 9 #[.int .i64 4, cellV x s] w fun e w' => (∃ t, e = .returned (.string t) ∧ RdS t (hexC l)) ∧ Below w.heap.size w w' := by
  have hbl : Below w.heap.size w (w.alloc (.cells #[.int .u64 (x : Int), .string s] 24)) := (Below.refl _ w).alloc (Nat.le_refl _) _
  have HB := Lib.hid hbl
  have HS := Lib.hid hs
  clear hbl hs
  unfold cellV
  go_enter Tryz.func9, Tryz.ntmps9
  go_wp2_with fail
  refine (ref_Hex s l _ HS.out hb).mono ?_
  rintro e w1 ⟨⟨t, rfl, ht⟩, hb1⟩
  have HB1 := Lib.hid hb1
  clear hb1
  go_wp2
  go_ret
  exact ⟨⟨_, rfl, ht⟩, HB.out.trans (HB1.out.mono (by simp))⟩

set_option maxHeartbeats 2000000 in
set_option maxRecDepth 1000000 in
theorem ref_Text5 (x : Nat) (hx : x < 18446744073709551616) (s : ByteArray) (w : World) :
    Calls Tryz.prog 9 #[.int .i64 5, cellV x s] w fun e w' => (∃ t, e = .returned (.string t) ∧ RdS t (hexN 16 x)) ∧ Below w.heap.size w w' := by
  have hbl : Below w.heap.size w (w.alloc (.cells #[.int .u64 (x : Int), .string s] 24)) := (Below.refl _ w).alloc (Nat.le_refl _) _
  have HB := Lib.hid hbl
  clear hbl
  unfold cellV
  go_enter Tryz.func9, Tryz.ntmps9
  go_wp2
  go_loopw [5, 6, 7] (fun a b c wr => ∃ (k y : Nat) (t : ByteArray) (l : List UInt8), k ≤ 16 ∧ y < 18446744073709551616 ∧ a = .string t ∧ b = .int .u64 y ∧ c = .int .i64 (k : Int) ∧ Hid (RdS t l) ∧ Hid (l.length = k) ∧ Hid (hexN 16 x = hexN (16 - k) y ++ l) ∧ Hid (Below w.heap.size w wr)) (fun _ _ c _ => 16 - (intOf c).toNat)
  case atStart => exact ⟨0, x, _, [], by omega, hx, rfl, rfl, rfl, Lib.hid ⟨rfl, by simp⟩, Lib.hid rfl, Lib.hid (by simp), HB⟩
  case round =>
    obtain ⟨k, y, t, l, hk, hy, rfl, rfl, rfl, HS, HL, HN, HBR⟩ := hrel
    by_cases hgo : k < 16
    · have hlk := HL.out
      have hss := HS.out.size
      have hm : (y : Int) % 16 = ((y % 16 : Nat) : Int) := by omega
      obtain ⟨r, hr⟩ : ∃ r, r = y % 16 := ⟨_, rfl⟩
      have hr16 : r < 16 := by omega
      rw [← hr] at hm
      obtain ⟨d, hd⟩ : ∃ d : ByteArray, d = ⟨#[dig r]⟩ := ⟨_, rfl⟩
      have hext : ({ data := #[48, 49, 50, 51, 52, 53, 54, 55, 56, 57, 97, 98, 99, 100, 101, 102] } : ByteArray).extract r (r + 1) = d := by rw [hd]; exact digit_at hr16
      have hdS : RdS d [dig r] := ⟨hd, by simp⟩
      have hds : d.size = 1 := hdS.size
      have hsz : ¬ (d.size + t.size > 9223372036854775807) := by omega
      have HA := Lib.hid (hdS.app HS.out (by rw [show [dig r].length = 1 from rfl]; omega))
      have HN2 := Lib.hid (show hexN 16 x = hexN (16 - (k + 1)) (y / 16) ++ ([dig r] ++ l) by
        rw [HN.out, show 16 - k = (16 - (k + 1)) + 1 from by omega, hexN, ← hr, List.append_assoc])
      clear hr hd hdS hds hss hlk
      go_wp2
      go_roundw
      case rel => exact ⟨k + 1, y / 16, d ++ t, [dig r] ++ l, by omega, by omega, rfl, by go_num, by go_num, HA, Lib.hid (by simp [HL.out]), HN2, HBR⟩
      case measure => simp [intOf]; omega
    · obtain rfl : k = 16 := by omega
      have HF := Lib.hid (show hexN 16 x = l by rw [HN.out]; rfl)
      clear hgo
      go_wp2
      go_ret
      exact ⟨⟨_, rfl, by rw [HF.out]; exact HS.out⟩, HBR.out⟩

set_option maxHeartbeats 2000000 in
set_option maxRecDepth 1000000 in
theorem ref_Text2 (x : Nat) (hx : x < 2) (s : ByteArray) (w : World) :
    Calls Tryz.prog 9 #[.int .i64 2, cellV x s] w fun e w' => (∃ t, e = .returned (.string t) ∧ RdS t (if x = 0 then [102, 97, 108, 115, 101] else [116, 114, 117, 101])) ∧ Below w.heap.size w w' := by
  have hbl : Below w.heap.size w (w.alloc (.cells #[.int .u64 (x : Int), .string s] 24)) := (Below.refl _ w).alloc (Nat.le_refl _) _
  have HB := Lib.hid hbl
  clear hbl
  unfold cellV
  obtain rfl | rfl : x = 0 ∨ x = 1 := by omega
  · go_enter Tryz.func9, Tryz.ntmps9
    go_wp2
    go_ret
    refine ⟨⟨_, rfl, ⟨rfl, by simp⟩⟩, ?_⟩
    exact HB.out.alloc (by simp) _
  · go_enter Tryz.func9, Tryz.ntmps9
    go_wp2
    go_ret
    refine ⟨⟨_, rfl, ⟨rfl, by simp⟩⟩, ?_⟩
    exact HB.out.alloc (by simp) _

/-- A cell's text, for a cell that may be. -/
theorem ref_Text (kind : Int) (x : Nat) (s : ByteArray) (l : List UInt8) (w : World) (hk : 0 ≤ kind ∧ kind ≤ 5) (hx : x < 18446744073709551616) (h2 : kind = 2 → x < 2) (hs : RdS s l) (hb : l.length ≤ 70368744175616) :
    Calls Tryz.prog 9 #[.int .i64 kind, cellV x s] w fun e w' => (∃ t, e = .returned (.string t) ∧ RdS t (textC kind x l)) ∧ Below w.heap.size w w' := by
  obtain rfl | rfl | rfl | rfl | rfl | rfl : kind = 0 ∨ kind = 1 ∨ kind = 2 ∨ kind = 3 ∨ kind = 4 ∨ kind = 5 := by omega
  · rw [show textC 0 x l = sdec (wrap64 (x : Int)) from by unfold textC; simp]; exact ref_Text0 x hx s l w hs hb
  · rw [show textC 1 x l = dec x from by unfold textC; simp]; exact ref_Text1 x hx s l w hs hb
  · rw [show textC 2 x l = (if x = 0 then [102, 97, 108, 115, 101] else [116, 114, 117, 101]) from by unfold textC; simp]; exact ref_Text2 x (h2 rfl) s w
  · rw [show textC 3 x l = hexC l from by unfold textC; simp]; exact ref_Text3 x hx s l w hs hb
  · rw [show textC 4 x l = hexC l from by unfold textC; simp]; exact ref_Text4 x hx s l w hs hb
  · rw [show textC 5 x l = hexN 16 x from by unfold textC; simp]; exact ref_Text5 x hx s w

end Go.Proofs.YtdegeifklchjaaaGreatDoor
