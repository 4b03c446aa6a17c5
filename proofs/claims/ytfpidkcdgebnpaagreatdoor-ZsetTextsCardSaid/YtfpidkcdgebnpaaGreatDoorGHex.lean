/-
  Decimals as the document's own answer for layer 4 tells them.
-/
import Derived.Test.YtfpidkcdgebnpaaGreatDoorGBaseA
import Derived.Deep.QuietTactic
import Derived.BigQuiet
import Derived.RegionTactic
import Derived.BigRegion
set_option linter.unusedVariables false
set_option linter.unusedSimpArgs false
set_option maxRecDepth 1000000
namespace Go.Proofs.YtfpidkcdgebnpaaGreatDoor
open Go.RowKit

/-- The decimals of a number. -/
def dec (x : Nat) : List UInt8 := if x < 10 then [UInt8.ofNat (48 + x)] else dec (x / 10) ++ [UInt8.ofNat (48 + x % 10)]
  termination_by x
  decreasing_by omega

theorem dec_lo {x : Nat} (h : x < 10) : dec x = [UInt8.ofNat (48 + x)] := by rw [dec, if_pos h]
theorem dec_hi {x : Nat} (h : ¬ x < 10) : dec x = dec (x / 10) ++ [UInt8.ofNat (48 + x % 10)] := by rw [dec, if_neg h]

theorem dec_len : ∀ (k x : Nat), x < 10 ^ (k + 1) → (dec x).length ≤ k + 1
  | 0, x, h => by rw [dec_lo (by simpa using h)]; simp
  | k + 1, x, h => by
    by_cases h1 : x < 10
    · rw [dec_lo h1]; simp
    · rw [dec_hi h1, List.length_append]
      have := dec_len k (x / 10) (by rw [Nat.div_lt_iff_lt_mul (by decide)]; rw [Nat.pow_succ] at h; exact h)
      simp; omega

/-- The digit's character. -/
def dig (r : Nat) : UInt8 := if r < 10 then UInt8.ofNat (48 + r) else UInt8.ofNat (87 + r)
def digits16 : ByteArray := ⟨#[48, 49, 50, 51, 52, 53, 54, 55, 56, 57, 97, 98, 99, 100, 101, 102]⟩
theorem digit_at {r : Nat} (h : r < 16) : digits16.extract r (r + 1) = ⟨#[dig r]⟩ := by
  obtain rfl | rfl | rfl | rfl | rfl | rfl | rfl | rfl | rfl | rfl | rfl | rfl | rfl | rfl | rfl | rfl : r = 0 ∨ r = 1 ∨ r = 2 ∨ r = 3 ∨ r = 4 ∨ r = 5 ∨ r = 6 ∨ r = 7 ∨ r = 8 ∨ r = 9 ∨ r = 10 ∨ r = 11 ∨ r = 12 ∨ r = 13 ∨ r = 14 ∨ r = 15 := by omega
  all_goals decide

theorem RdS.app {a b : ByteArray} {l m : List UInt8} (ha : RdS a l) (hb : RdS b m) (h : l.length + m.length ≤ 140737488351232) : RdS (a ++ b) (l ++ m) := by
  refine ⟨?_, by simpa using h⟩
  rw [ha.eq, hb.eq, ByteArray.mk_append_mk]
theorem RdS.size {s : ByteArray} {l : List UInt8} (h : RdS s l) : s.size = l.length := by rw [h.eq]; simp [ByteArray.size]

/-- A number for a string's being empty (for a measure). -/
def emptyN : Value → Nat
  | .string s => if s.toList.isEmpty then 1 else 0
  | _ => 0

set_option maxHeartbeats 1000000 in
theorem ref_Decimal (x : Nat) (hx : x < 18446744073709551616) (w : World) :
    Calls Tryz.prog 91 #[.int .u64 (x : Int)] w fun e w' => (∃ s, e = .returned (.string s) ∧ RdS s (dec x)) ∧ w = w' := by
  have hdl := dec_len 19 x (by omega)
  go_enter Tryz.func91, Tryz.ntmps91
  go_wp2
  go_loop [0, 3] (fun a b => ∃ (y : Nat) (s : ByteArray) (l : List UInt8), y < 18446744073709551616 ∧ a = .int .u64 y ∧ b = .string s ∧ Hid (RdS s l) ∧ Hid ((l = [] ∧ y = x) ∨ (l ≠ [] ∧ dec x = (if y = 0 then [] else dec y) ++ l))) (fun a b => 2 * (intOf a).toNat + emptyN b)
  case atStart => exact ⟨x, _, [], hx, rfl, rfl, Lib.hid ⟨rfl, by simp⟩, Lib.hid (.inl ⟨rfl, rfl⟩)⟩
  case round =>
    obtain ⟨y, s, l, hy, rfl, rfl, HS, HL⟩ := hrel
    have hsl := HS.out.toList
    have hll : l.length ≤ 20 := by
      rcases HL.out with ⟨h, _⟩ | ⟨_, h⟩
      · rw [h]; simp
      · have := congrArg List.length h
        rw [List.length_append] at this
        omega
    have hss := HS.out.size
    by_cases hgo : 0 < y ∨ l = []
    · have hm : (y : Int) % 10 = ((y % 10 : Nat) : Int) := by omega
      obtain ⟨r, hr⟩ : ∃ r, r = y % 10 := ⟨_, rfl⟩
      have hr10 : r < 10 := by omega
      rw [← hr] at hm
      have HR := Lib.hid hr
      obtain ⟨d, hd⟩ : ∃ d : ByteArray, d = ⟨#[dig r]⟩ := ⟨_, rfl⟩
      have hext : ({ data := #[48, 49, 50, 51, 52, 53, 54, 55, 56, 57, 97, 98, 99, 100, 101, 102] } : ByteArray).extract r (r + 1) = d := by rw [hd]; exact digit_at (by omega)
      have hdS : RdS d [dig r] := ⟨hd, by simp⟩
      have hds : d.size = 1 := hdS.size
      have hsz : ¬ (d.size + s.size > 9223372036854775807) := by omega
      have HA := Lib.hid (hdS.app HS.out (by rw [show [dig r].length = 1 from rfl]; omega))
      have hdig : dig r = UInt8.ofNat (48 + y % 10) := by unfold dig; rw [if_pos (by omega), hr]
      have hnew : dec x = (if y / 10 = 0 then [] else dec (y / 10)) ++ ([dig r] ++ l) := by
        have hdy : dec y = (if y / 10 = 0 then [] else dec (y / 10)) ++ [dig r] := by
          by_cases h10 : y < 10
          · rw [dec_lo h10, if_pos (by omega), hdig, List.nil_append, Nat.mod_eq_of_lt h10]
          · rw [dec_hi h10, if_neg (by omega), hdig]
        rcases HL.out with ⟨h1, h2⟩ | ⟨h1, h2⟩
        · rw [h1, ← h2, hdy, List.append_nil]
        · rw [h2, if_neg (fun hy0 => by rcases hgo with h | h; (· omega); exact absurd h h1), hdy, List.append_assoc]
      have HN := Lib.hid hnew
      have hemp : s.toList.isEmpty = true ↔ l = [] := by rw [hsl]; simp
      have HEM := Lib.hid hemp
      clear hr hd hdS hdig hnew hemp hsl hss hds
      have hmz : ∀ b, emptyN (.string (d ++ s)) = b → b = 0 := fun b hb => by
        rw [← hb]
        show (if (d ++ s).toList.isEmpty = true then 1 else 0) = 0
        rw [if_neg (by rw [HA.out.toList]; simp)]
      have HMZ := Lib.hid hmz
      clear hmz
      by_cases h0 : 0 < y
      · have hdd : decide ((y : Int) > 0) = true := decide_eq_true (by omega)
        go_wp2
        go_round
        case rel => exact ⟨y / 10, d ++ s, [dig r] ++ l, by omega, by go_num, rfl, HA, Lib.hid (.inr ⟨by simp, HN.out⟩)⟩
        case measure =>
          have := HMZ.out _ rfl
          simp only [intOf]
          omega
      · have hle : l = [] := by rcases hgo with h | h; · omega
                                · exact h
        have hdd : decide ((y : Int) > 0) = false := decide_eq_false (by omega)
        have hsem : s.toList.isEmpty = true := HEM.out.2 hle
        go_wp2
        go_round
        case rel => exact ⟨y / 10, d ++ s, [dig r] ++ l, by omega, by go_num, rfl, HA, Lib.hid (.inr ⟨by simp, HN.out⟩)⟩
        case measure =>
          have := HMZ.out _ rfl
          have h2 : emptyN (.string s) = 1 := by show (if s.toList.isEmpty = true then 1 else 0) = 1; rw [if_pos hsem]
          simp only [intOf]
          omega
    · have hy0 : y = 0 := by omega
      subst hy0
      have hln : ¬ l = [] := fun h => hgo (.inr h)
      have hse : s.toList.isEmpty = false := by rw [hsl]; cases l <;> simp_all
      have hfin : dec x = l := by
        rcases HL.out with ⟨h, _⟩ | ⟨_, h⟩
        · exact absurd h hln
        · rw [h]; simp
      have HF := Lib.hid hfin
      clear hfin hln hgo hsl
      go_wp2
      go_ret
      exact ⟨⟨s, rfl, by rw [HF.out]; exact HS.out⟩, rfl⟩

end Go.Proofs.YtfpidkcdgebnpaaGreatDoor


/-
  Bytes' digits as the document's own answer for layer 4 tells them; numbers of either sign.
-/
namespace Go.Proofs.YtfpidkcdgebnpaaGreatDoor
open Go.RowKit

def hexL (l : List UInt8) : List UInt8 := l.flatMap fun b => [dig (b.toNat / 16), dig (b.toNat % 16)]
def hexC (l : List UInt8) : List UInt8 := if l = [] then [45] else hexL l

theorem hexL_len (l : List UInt8) : (hexL l).length = 2 * l.length := by
  induction l with
  | nil => rfl
  | cons a r ih =>
    unfold hexL at ih ⊢
    rw [List.flatMap_cons, List.length_append, ih, List.length_cons]
    simp; omega

theorem hexL_succ {l : List UInt8} {k : Nat} (h : k < l.length) : hexL (l.take (k + 1)) = (hexL (l.take k) ++ [dig ((l.getD k 0).toNat / 16)]) ++ [dig ((l.getD k 0).toNat % 16)] := by
  unfold hexL
  rw [List.take_succ_eq_append_getElem h, List.flatMap_append]
  simp [List.getD, h]

/-- A number of either sign, as its decimals. -/
def sdec (x : Int) : List UInt8 := if x < 0 then 45 :: dec (-x).toNat else dec x.toNat

set_option maxHeartbeats 1000000 in
set_option maxRecDepth 1000000 in
theorem ref_Hex (s : ByteArray) (l : List UInt8) (w : World) (h : RdS s l) (hb : l.length ≤ 70368744175616) :
    Calls Tryz.prog 130 #[.string s] w fun e w' => (∃ t, e = .returned (.string t) ∧ RdS t (hexC l)) ∧ Below w.heap.size w w' := by
  have hlen := h.len
  have hidx := h.idx
  have htl := h.toList
  by_cases hl : l = []
  · have hem : s.toList.isEmpty = true := by rw [htl, hl]; rfl
    rw [show hexC l = [45] from if_pos hl]
    clear htl
    go_enter Tryz.func130, Tryz.ntmps130
    go_wp2
    go_ret
    exact ⟨⟨_, rfl, ⟨rfl, by simp⟩⟩, Below.refl _ _⟩
  · have hem : s.toList.isEmpty = false := by rw [htl]; cases l <;> simp_all
    rw [show hexC l = hexL l from if_neg hl]
    clear htl
    go_enter Tryz.func130, Tryz.ntmps130
    go_wp2
    go_loopw [3, 4] (fun a i wr => ∃ (k : Nat) (t : ByteArray), k ≤ l.length ∧ i = .int .i64 k ∧ a = .string t ∧ Hid (RdS t (hexL (l.take k))) ∧ Hid (Below w.heap.size w wr)) (fun _ i _ => l.length - (intOf i).toNat)
    case atStart => exact ⟨0, _, by omega, rfl, rfl, Lib.hid ⟨rfl, by simp [hexL]⟩, Lib.hid (Below.refl _ _)⟩
    case round =>
      obtain ⟨k, t, hk, rfl, rfl, HT, HB⟩ := hrel
      by_cases hlt : k < l.length
      · have hx := hidx k hlt
        obtain ⟨c, hc⟩ : ∃ c : Nat, at8 l k = (c : Int) := ⟨(l.getD k 0).toNat, rfl⟩
        have hc1 := at8_hi l k
        have hcc : (l.getD k 0).toNat = c := by unfold at8 at hc; omega
        have hsu := hexL_succ hlt
        rw [hcc] at hsu
        rw [hc] at hc1 hx
        obtain ⟨a, ha⟩ : ∃ a, a = c / 16 := ⟨_, rfl⟩
        obtain ⟨b, hb2⟩ : ∃ b, b = c % 16 := ⟨_, rfl⟩
        have ha1 : (c : Int) / 16 = (a : Int) := by omega
        have hb1 : (c : Int) % 16 = (b : Int) := by omega
        have ha16 : a < 16 := by omega
        have hb16 : b < 16 := by omega
        rw [← ha, ← hb2] at hsu
        obtain ⟨d1, hd1⟩ : ∃ d : ByteArray, d = ⟨#[dig a]⟩ := ⟨_, rfl⟩
        obtain ⟨d2, hd2⟩ : ∃ d : ByteArray, d = ⟨#[dig b]⟩ := ⟨_, rfl⟩
        have hx1 : ({ data := #[48, 49, 50, 51, 52, 53, 54, 55, 56, 57, 97, 98, 99, 100, 101, 102] } : ByteArray).extract a (a + 1) = d1 := by rw [hd1]; exact digit_at ha16
        have hx2 : ({ data := #[48, 49, 50, 51, 52, 53, 54, 55, 56, 57, 97, 98, 99, 100, 101, 102] } : ByteArray).extract b (b + 1) = d2 := by rw [hd2]; exact digit_at hb16
        have hS1 : RdS d1 [dig a] := ⟨hd1, by simp⟩
        have hS2 : RdS d2 [dig b] := ⟨hd2, by simp⟩
        have hle := hexL_len (l.take k)
        rw [List.length_take, Nat.min_eq_left hk] at hle
        have hA1 := HT.out.app hS1 (by rw [hle, show [dig a].length = 1 from rfl]; omega)
        have hA2 := hA1.app hS2 (by rw [List.length_append, hle, show [dig a].length = 1 from rfl, show [dig b].length = 1 from rfl]; omega)
        have z1 : d1.size = 1 := hS1.size
        have z2 : d2.size = 1 := hS2.size
        have z3 := HT.out.size
        have z4 := hA1.size
        rw [List.length_append, hle, show [dig a].length = 1 from rfl] at z4
        rw [hle] at z3
        have hsz1 : ¬ (t.size + d1.size > 9223372036854775807) := by omega
        have hsz2 : ¬ ((t ++ d1).size + d2.size > 9223372036854775807) := by omega
        rw [← hsu] at hA2
        have HA := Lib.hid hA2
        clear hsu hcc hc ha hb2 hd1 hd2 hS1 hS2 hA1 hA2 z1 z2 z3 z4 hle hidx
        go_wp2
        go_quiet (fail)
        go_wp2
        go_roundw
        case rel => exact ⟨k + 1, t ++ d1 ++ d2, by omega, by go_num, rfl, HA, Lib.hid ⟨HB.out.os, HB.out.tape, HB.out.output, HB.out.size, HB.out.block⟩⟩
        case measure => simp [intOf]; omega
      · obtain rfl : k = l.length := by omega
        have HT2 := HT.out
        rw [List.take_length] at HT2
        have HT3 := Lib.hid HT2
        clear HT2
        go_wp2
        go_ret
        exact ⟨⟨_, rfl, HT3.out⟩, HB.out⟩

end Go.Proofs.YtfpidkcdgebnpaaGreatDoor


/-
  A digit's number, and decimals read, as the document's own answer for layer 4 tells them.
-/
namespace Go.Proofs.YtfpidkcdgebnpaaGreatDoor
open Go.RowKit

/-- A digit to the base 16; -1: it is none. -/
def digV (c : Nat) : Int := if 48 ≤ c ∧ c ≤ 57 then (c : Int) - 48 else if 97 ≤ c ∧ c ≤ 102 then (c : Int) - 87 else -1

theorem dig_val {i : Nat} (h : i < 16) : ((dig i).toNat : Int) = if i < 10 then 48 + (i : Int) else 87 + (i : Int) := by
  unfold dig
  split
  · rw [UInt8.toNat_ofNat']; omega
  · rw [UInt8.toNat_ofNat']; omega

theorem digV_dig {i : Nat} (h : i < 16) : digV (dig i).toNat = i := by
  have := dig_val h
  unfold digV
  split at this
  · rw [if_pos (by omega)]; omega
  · rw [if_neg (by omega), if_pos (by omega)]; omega

theorem digV_none {c : Nat} (h : ∀ j, j < 16 → (dig j).toNat ≠ c) : digV c = -1 := by
  unfold digV
  split
  · rename_i h1
    exfalso
    have h2 := dig_val (i := c - 48) (by omega)
    rw [if_pos (by omega)] at h2
    exact h (c - 48) (by omega) (by omega)
  · split
    · rename_i h1 h3
      exfalso
      have h2 := dig_val (i := c - 87) (by omega)
      rw [if_neg (by omega)] at h2
      exact h (c - 87) (by omega) (by omega)
    · rfl

theorem dig_list : ∀ i, i < 16 → ([48, 49, 50, 51, 52, 53, 54, 55, 56, 57, 97, 98, 99, 100, 101, 102] : List UInt8).getD i 0 = dig i := by decide

theorem digits_rd : RdS ({ data := #[48, 49, 50, 51, 52, 53, 54, 55, 56, 57, 97, 98, 99, 100, 101, 102] } : ByteArray) [48, 49, 50, 51, 52, 53, 54, 55, 56, 57, 97, 98, 99, 100, 101, 102] := ⟨rfl, by simp⟩

theorem ref_digit (c : Nat) (hc : c < 256) (w : World) :
    Calls Tryz.prog 128 #[.int .u8 (c : Int)] w fun e w' => e = .returned (.int .i64 (digV c)) ∧ w = w' := by
  have hidx := digits_rd.idx
  go_enter Tryz.func128, Tryz.ntmps128
  go_wp2
  go_loop [3] (fun a => ∃ i : Nat, i ≤ 16 ∧ a = .int .i64 i ∧ Hid (∀ j, j < i → (dig j).toNat ≠ c)) (fun a => 16 - (intOf a).toNat)
  case atStart => exact ⟨0, by omega, rfl, Lib.hid (fun j hj => absurd hj (by omega))⟩
  case round =>
    obtain ⟨i, hi, rfl, HJ⟩ := hrel
    by_cases hlt : i < 16
    · have hx := hidx i (by simpa using hlt)
      obtain ⟨v, hv⟩ : ∃ v, v = (dig i).toNat := ⟨_, rfl⟩
      have e8 : at8 [48, 49, 50, 51, 52, 53, 54, 55, 56, 57, 97, 98, 99, 100, 101, 102] i = (v : Int) := by unfold at8; rw [dig_list i hlt, hv]
      rw [e8] at hx
      have HV := Lib.hid hv
      clear e8 hv hidx
      by_cases he : v = c
      · have heq : ((v : Int) == (c : Int)) = true := by simp [he]
        have HE := Lib.hid (show digV c = i by rw [← he, HV.out]; exact digV_dig hlt)
        clear he
        go_wp2
        go_ret
        refine ⟨?_, rfl⟩
        rw [HE.out]
        rfl
      · have heq : ((v : Int) == (c : Int)) = false := by simp; omega
        go_wp2
        go_round
        case rel =>
          refine ⟨i + 1, by omega, by go_num, Lib.hid (fun j hj => ?_)⟩
          by_cases hji : j < i
          · exact HJ.out j hji
          · obtain rfl : j = i := by omega
            rw [← HV.out]; exact he
        case measure => simp [intOf]; omega
    · obtain rfl : i = 16 := by omega
      have HE := Lib.hid (digV_none HJ.out)
      go_wp2
      go_ret
      refine ⟨?_, rfl⟩
      rw [HE.out]
      rfl

set_option maxRecDepth 1000000 in
theorem ref_Signed (x : Int) (h0 : -9223372036854775808 ≤ x) (h1 : x ≤ 9223372036854775807) (w : World) :
    Calls Tryz.prog 62 #[.int .i64 x] w fun e w' => (∃ s, e = .returned (.string s) ∧ RdS s (sdec x)) ∧ w = w' := by
  by_cases hx : x < 0
  · obtain ⟨n, hn⟩ : ∃ n : Nat, (n : Int) = -x := ⟨(-x).toNat, by omega⟩
    have HD := Lib.hid (show sdec x = 45 :: dec n by unfold sdec; rw [if_pos hx, show (-x).toNat = n from by omega])
    have hdl := dec_len 19 n (by omega)
    have e1 : -(x + 1) + 1 = (n : Int) := by omega
    go_enter Tryz.func62, Tryz.ntmps62
    go_wp2_with fail
    rw [← hn]
    refine (ref_Decimal n (by omega) _).mono ?_
    rintro e w1 ⟨⟨s, rfl, hs⟩, rfl⟩
    have hsz := hs.size
    have hA := (show RdS (⟨#[45]⟩ : ByteArray) [45] from ⟨rfl, by simp⟩).app hs (by simp; omega)
    have hle : ¬ ((⟨#[45]⟩ : ByteArray).size + s.size > 9223372036854775807) := by
      rw [hsz, show (⟨#[45]⟩ : ByteArray).size = 1 from rfl]; omega
    have HA := Lib.hid hA
    clear hA hs hsz
    go_wp2
    go_ret
    exact ⟨⟨_, rfl, by rw [HD.out]; exact HA.out⟩, rfl⟩
  · obtain ⟨n, rfl⟩ := Int.eq_ofNat_of_zero_le (by omega : 0 ≤ x)
    have HD := Lib.hid (show sdec (n : Int) = dec n by unfold sdec; rw [if_neg hx]; rfl)
    go_enter Tryz.func62, Tryz.ntmps62
    go_wp2_with fail
    refine (ref_Decimal n (by omega) _).mono ?_
    rintro e w1 ⟨⟨s, rfl, hs⟩, rfl⟩
    go_wp2
    go_ret
    exact ⟨⟨s, rfl, by rw [HD.out]; exact hs⟩, rfl⟩

end Go.Proofs.YtfpidkcdgebnpaaGreatDoor


/-
  Decimals read, as the document's own answer for layer 4 tells them.
-/
namespace Go.Proofs.YtfpidkcdgebnpaaGreatDoor
open Go.RowKit

/-- The number of decimals, from n on: none at a byte that is none, or if it gets too great. -/
def undecV : List UInt8 → Nat → Option Nat
  | [], n => some n
  | c :: r, n => if (48 ≤ c.toNat ∧ c.toNat ≤ 57) ∧ 10 * n + (c.toNat - 48) < 18446744073709551616 then undecV r (10 * n + (c.toNat - 48)) else none

def undecC (l : List UInt8) : Option Nat := match undecV l 0 with
  | some n => if dec n = l then some n else none
  | none => none

theorem undecV_app : ∀ (a b : List UInt8) (n : Nat), undecV (a ++ b) n = (undecV a n).bind (undecV b)
  | [], b, n => rfl
  | c :: r, b, n => by
    simp only [List.cons_append, undecV]
    split
    · exact undecV_app r b _
    · rfl

theorem undecV_dec (x : Nat) : x < 18446744073709551616 → undecV (dec x) 0 = some x := by
  induction x using Nat.strongRecOn with
  | ind x ih =>
    intro hx
    have hb : ∀ d, d < 10 → (UInt8.ofNat (48 + d)).toNat = 48 + d := fun d hd => by rw [UInt8.toNat_ofNat']; omega
    by_cases h : x < 10
    · rw [dec_lo h, undecV, hb x h, if_pos (by omega), undecV]
      congr 1; omega
    · rw [dec_hi h, undecV_app, ih (x / 10) (by omega) (by omega), Option.bind_some, undecV, hb _ (by omega), if_pos (by omega), undecV]
      congr 1; omega

/-- What is read of a number's decimals is the number. -/
theorem undecC_dec {x : Nat} (hx : x < 18446744073709551616) : undecC (dec x) = some x := by
  unfold undecC
  rw [undecV_dec x hx]
  exact if_pos rfl
theorem undecC_some {l : List UInt8} {x : Nat} (h : undecC l = some x) : dec x = l := by
  unfold undecC at h
  split at h
  · split at h
    · rename_i hd
      injection h with h
      rw [← h]; exact hd
    · exact absurd h (by simp)
  · exact absurd h (by simp)

theorem undecV_lt : ∀ (l : List UInt8) (n : Nat) {m : Nat}, n < 18446744073709551616 → undecV l n = some m → m < 18446744073709551616
  | [], n, m, hn, h => by injection h with h; omega
  | c :: r, n, m, hn, h => by
    rw [undecV] at h
    split at h
    · rename_i hc; exact undecV_lt r _ hc.2 h
    · exact absurd h (by simp)

theorem undecV_step {l : List UInt8} {k n c : Nat} (h : k < l.length) (hc : (l.getD k 0).toNat = c) : undecV (l.drop k) n = if (48 ≤ c ∧ c ≤ 57) ∧ 10 * n + (c - 48) < 18446744073709551616 then undecV (l.drop (k + 1)) (10 * n + (c - 48)) else none := by
  rw [drop_cons8 h, undecV, hc]

set_option maxHeartbeats 2000000 in
set_option maxRecDepth 1000000 in
theorem ref_Undecimal (s : ByteArray) (l : List UInt8) (w : World) (h : RdS s l) :
    Calls Tryz.prog 88 #[.string s] w fun e w' => (∃ (n : Nat) (b : Bool), e = .returned (.tuple #[.int .u64 (n : Int), .bool b]) ∧ n < 18446744073709551616 ∧ undecC l = (if b = true then some n else none)) ∧ w = w' := by
  have hlen := h.len
  have hidx := h.idx
  have hsm := h.small
  go_enter Tryz.func88, Tryz.ntmps88
  go_wp2
  go_loop [4, 5] (fun a i => ∃ n k : Nat, k ≤ l.length ∧ i = .int .i64 k ∧ a = .int .u64 n ∧ n < 18446744073709551616 ∧ Hid (undecV l 0 = undecV (l.drop k) n)) (fun _ i => l.length - (intOf i).toNat)
  case atStart => exact ⟨0, 0, by omega, rfl, rfl, by omega, Lib.hid (by rw [List.drop_zero])⟩
  case round =>
    obtain ⟨n, k, hk, rfl, rfl, hn, HV⟩ := hrel
    by_cases hlt : k < l.length
    · have hx := hidx k hlt
      obtain ⟨c, hc⟩ : ∃ c : Nat, at8 l k = (c : Int) := ⟨(l.getD k 0).toNat, rfl⟩
      have hc1 := at8_hi l k
      have hcc : (l.getD k 0).toNat = c := by unfold at8 at hc; omega
      rw [hc] at hc1 hx
      have HS := Lib.hid (undecV_step (n := n) hlt hcc)
      clear hcc hc hidx
      by_cases h1 : 48 ≤ c ∧ c ≤ 57
      · obtain ⟨d, hd⟩ : ∃ d, d = c - 48 := ⟨_, rfl⟩
        have hd9 : d ≤ 9 := by omega
        have HD := Lib.hid (show digV c = (d : Int) by unfold digV; rw [if_pos h1]; omega)
        have HDC := Lib.hid hd
        by_cases h2 : 10 * n + d < 18446744073709551616
        · have HS2 := Lib.hid (show undecV l 0 = undecV (l.drop (k + 1)) (10 * n + d) by rw [HV.out, HS.out, if_pos ⟨h1, by omega⟩, ← hd])
          have q1 : decide ((d : Int) > 9) = false := decide_eq_false (by omega)
          have q2 : decide ((n : Int) > (18446744073709551615 - (d : Int)) / 10) = false := decide_eq_false (by omega)
          clear hd h1
          go_wp2_with fail
          refine (ref_digit c (by omega) _).mono ?_
          rintro e w1 ⟨rfl, rfl⟩
          rw [HD.out]
          go_wp2
          go_round
          case rel => exact ⟨10 * n + d, k + 1, by omega, by go_num, by go_num, by omega, HS2⟩
          case measure => simp [intOf]; omega
        · have HF := Lib.hid (show undecC l = none by unfold undecC; rw [HV.out, HS.out, if_neg (by omega)])
          have q1 : decide ((d : Int) > 9) = false := decide_eq_false (by omega)
          have q2 : decide ((n : Int) > (18446744073709551615 - (d : Int)) / 10) = true := decide_eq_true (by omega)
          clear hd h1
          go_wp2_with fail
          refine (ref_digit c (by omega) _).mono ?_
          rintro e w1 ⟨rfl, rfl⟩
          rw [HD.out]
          go_wp2
          go_ret2
          exact ⟨⟨0, false, rfl, by omega, by rw [HF.out]; rfl⟩, rfl⟩
      · have HF := Lib.hid (show undecC l = none by unfold undecC; rw [HV.out, HS.out, if_neg (by omega)])
        by_cases h3 : 97 ≤ c ∧ c ≤ 102
        · obtain ⟨d, hd⟩ : ∃ d, d = c - 87 := ⟨_, rfl⟩
          have hd9 : 9 < d := by omega
          have hd15 : d ≤ 15 := by omega
          have HD := Lib.hid (show digV c = (d : Int) by unfold digV; rw [if_neg h1, if_pos h3]; omega)
          have q1 : decide ((d : Int) > 9) = true := decide_eq_true (by omega)
          clear hd h1 h3
          go_wp2_with fail
          refine (ref_digit c (by omega) _).mono ?_
          rintro e w1 ⟨rfl, rfl⟩
          rw [HD.out]
          go_wp2
          go_ret2
          exact ⟨⟨0, false, rfl, by omega, by rw [HF.out]; rfl⟩, rfl⟩
        · have HD := Lib.hid (show digV c = -1 by unfold digV; rw [if_neg h1, if_neg h3])
          have q0 : IntKind.u64.wrap (-1) = 18446744073709551615 := by decide
          clear h1 h3
          go_wp2_with fail
          refine (ref_digit c (by omega) _).mono ?_
          rintro e w1 ⟨rfl, rfl⟩
          rw [HD.out]
          go_wp2
          go_ret2
          exact ⟨⟨0, false, rfl, by omega, by rw [HF.out]; rfl⟩, rfl⟩
    · obtain rfl : k = l.length := by omega
      have HV2 := Lib.hid (show undecV l 0 = some n by rw [HV.out, List.drop_length]; rfl)
      have htl := Lib.hid h.toList
      go_wp2_with fail
      refine (ref_Decimal n hn _).mono ?_
      rintro e w1 ⟨⟨t, rfl, ht⟩, rfl⟩
      have htt := Lib.hid ht.toList
      clear ht
      go_wp2
      go_ret2
      refine ⟨⟨n, dec n == l, ?_, hn, ?_⟩, rfl⟩
      · rw [htt.out, htl.out]; rfl
      · unfold undecC; rw [HV2.out]
        show (if dec n = l then some n else none) = _
        by_cases hd : dec n = l
        · rw [if_pos hd, if_pos (by simpa using hd)]
        · rw [if_neg hd, if_neg (by simpa using hd)]

end Go.Proofs.YtfpidkcdgebnpaaGreatDoor


/-
  Numbers of either sign read, as the document's own answer for layer 4 tells them.
-/
namespace Go.Proofs.YtfpidkcdgebnpaaGreatDoor
open Go.RowKit

/-- The number of either sign that bytes tell. -/
def unsC (l : List UInt8) : Option Int :=
  if l.head? = some 45 then match undecC l.tail with
    | some n => if 0 < n ∧ n ≤ 9223372036854775808 then some (-(n : Int)) else none
    | none => none
  else match undecC l with
    | some n => if n ≤ 9223372036854775807 then some (n : Int) else none
    | none => none

theorem RdS.tail {s : ByteArray} {l : List UInt8} (h : RdS s l) : RdS (s.extract 1 s.size) l.tail := by
  refine ⟨?_, by have := h.small; simp; omega⟩
  rw [h.eq]
  apply ByteArray.ext
  simp [ByteArray.size]
  cases l <;> simp

set_option maxHeartbeats 2000000 in
set_option maxRecDepth 1000000 in
theorem ref_Unsigned (s : ByteArray) (l : List UInt8) (w : World) (h : RdS s l) :
    Calls Tryz.prog 60 #[.string s] w fun e w' => (∃ (x : Int) (b : Bool), e = .returned (.tuple #[.int .i64 x, .bool b]) ∧ -9223372036854775808 ≤ x ∧ x ≤ 9223372036854775807 ∧ unsC l = (if b = true then some x else none)) ∧ w = w' := by
  have hlen := h.len
  have hidx := h.idx
  have hsm := h.small
  have hsz := h.size
  by_cases hl : 0 < l.length
  · have hx := hidx 0 hl
    rw [show ((0 : Nat) : Int) = 0 from rfl] at hx
    obtain ⟨c, hc⟩ : ∃ c : Nat, at8 l 0 = (c : Int) := ⟨(l.getD 0 0).toNat, rfl⟩
    have hcc : (l.getD 0 0).toNat = c := by unfold at8 at hc; omega
    have hc1 := at8_hi l 0
    rw [hc] at hc1 hx
    have hl2 : decide ((l.length : Int) > 0) = true := decide_eq_true (by omega)
    by_cases h45 : c = 45
    · have HU : Hid (unsC l = match undecC l.tail with
          | some n => if 0 < n ∧ n ≤ 9223372036854775808 then some (-(n : Int)) else none
          | none => none) := Lib.hid (by
        unfold unsC; rw [if_pos]
        cases l with
        | nil => simp at hl
        | cons a r =>
          simp at hcc ⊢
          exact UInt8.toNat_inj.mp (by rw [hcc, h45]; rfl))
      have HT := Lib.hid h.tail
      have q1 : ((c : Int) == 45) = true := by rw [h45]; rfl
      have hs1 : (1 : Int) ≤ (s.size : Int) := by rw [hsz]; omega
      clear hidx hc hcc h45 hsz h
      go_enter Tryz.func60, Tryz.ntmps60
      go_wp2_with fail
      refine (ref_Undecimal _ _ _ HT.out).mono ?_
      rintro e w1 ⟨⟨n, b, rfl, hn, hb⟩, rfl⟩
      have HBB := Lib.hid hb
      clear hb
      cases b with
      | false =>
        have HF := Lib.hid (show unsC l = none by rw [HU.out, HBB.out]; rfl)
        clear HBB HU
        go_wp2
        go_ret2
        exact ⟨⟨0, false, rfl, by omega, by omega, by rw [HF.out]; rfl⟩, rfl⟩
      | true =>
        by_cases hn0 : n = 0
        · have HF := Lib.hid (show unsC l = none by rw [HU.out, HBB.out, hn0]; rfl)
          have q2 : ((n : Int) == 0) = true := by rw [hn0]; rfl
          clear HBB HU hn0
          go_wp2
          go_ret2
          exact ⟨⟨0, false, rfl, by omega, by omega, by rw [HF.out]; rfl⟩, rfl⟩
        · have q2 : ((n : Int) == 0) = false := by simp; omega
          by_cases hn1 : 9223372036854775808 < n
          · have HF := Lib.hid (show unsC l = none by rw [HU.out, HBB.out]; exact if_neg (by omega))
            have q3 : decide ((n : Int) > 9223372036854775808) = true := decide_eq_true (by omega)
            clear HBB HU
            go_wp2
            go_ret2
            exact ⟨⟨0, false, rfl, by omega, by omega, by rw [HF.out]; rfl⟩, rfl⟩
          · have HF := Lib.hid (show unsC l = some (-(n : Int)) by rw [HU.out, HBB.out]; exact if_pos (by omega))
            have q3 : decide ((n : Int) > 9223372036854775808) = false := decide_eq_false (by omega)
            clear HBB HU
            go_wp2
            go_ret2
            exact ⟨⟨_, true, rfl, by omega, by omega, by rw [HF.out, show -((n : Int) - 1) - 1 = -(n : Int) from by omega]; rfl⟩, rfl⟩
    · have HU : Hid (unsC l = match undecC l with
          | some n => if n ≤ 9223372036854775807 then some (n : Int) else none
          | none => none) := Lib.hid (by
        unfold unsC; rw [if_neg]
        cases l with
        | nil => simp at hl
        | cons a r =>
          simp at hcc ⊢
          rintro rfl
          exact h45 (by rw [← hcc]; rfl))
      have q1 : ((c : Int) == 45) = false := by simp; omega
      have HH := Lib.hid h
      clear hidx hc hcc h45 hsz h
      go_enter Tryz.func60, Tryz.ntmps60
      go_wp2_with fail
      refine (ref_Undecimal _ _ _ HH.out).mono ?_
      rintro e w1 ⟨⟨n, b, rfl, hn, hb⟩, rfl⟩
      have HBB := Lib.hid hb
      clear hb
      cases b with
      | false =>
        have HF := Lib.hid (show unsC l = none by rw [HU.out, HBB.out]; rfl)
        clear HBB HU
        go_wp2
        go_ret2
        exact ⟨⟨_, false, rfl, (by unfold wrap64; omega), (by unfold wrap64; omega), by rw [HF.out]; rfl⟩, rfl⟩
      | true =>
        by_cases hn1 : n ≤ 9223372036854775807
        · have HF := Lib.hid (show unsC l = some (n : Int) by rw [HU.out, HBB.out]; exact if_pos hn1)
          have q3 : decide ((n : Int) ≤ 9223372036854775807) = true := decide_eq_true (by omega)
          have q4 : wrap64 (n : Int) = (n : Int) := by unfold wrap64; omega
          clear HBB HU
          go_wp2
          go_ret2
          exact ⟨⟨_, true, rfl, by omega, by omega, by rw [HF.out]; rfl⟩, rfl⟩
        · have HF := Lib.hid (show unsC l = none by rw [HU.out, HBB.out]; exact if_neg hn1)
          have q3 : decide ((n : Int) ≤ 9223372036854775807) = false := decide_eq_false (by omega)
          clear HBB HU
          go_wp2
          go_ret2
          exact ⟨⟨_, false, rfl, (by unfold wrap64; omega), (by unfold wrap64; omega), by rw [HF.out]; rfl⟩, rfl⟩
  · have hn : l = [] := List.length_eq_zero_iff.mp (by omega)
    have HU : Hid (unsC l = match undecC l with
        | some n => if n ≤ 9223372036854775807 then some (n : Int) else none
        | none => none) := Lib.hid (by unfold unsC; rw [if_neg (by rw [hn]; simp)])
    have hl2 : decide ((l.length : Int) > 0) = false := decide_eq_false (by omega)
    have HH := Lib.hid h
    clear hidx hsz h hn
    go_enter Tryz.func60, Tryz.ntmps60
    go_wp2_with fail
    refine (ref_Undecimal _ _ _ HH.out).mono ?_
    rintro e w1 ⟨⟨n, b, rfl, hn, hb⟩, rfl⟩
    have HBB := Lib.hid hb
    clear hb
    cases b with
    | false =>
      have HF := Lib.hid (show unsC l = none by rw [HU.out, HBB.out]; rfl)
      clear HBB HU
      go_wp2
      go_ret2
      exact ⟨⟨_, false, rfl, (by unfold wrap64; omega), (by unfold wrap64; omega), by rw [HF.out]; rfl⟩, rfl⟩
    | true =>
      by_cases hn1 : n ≤ 9223372036854775807
      · have HF := Lib.hid (show unsC l = some (n : Int) by rw [HU.out, HBB.out]; exact if_pos hn1)
        have q3 : decide ((n : Int) ≤ 9223372036854775807) = true := decide_eq_true (by omega)
        have q4 : wrap64 (n : Int) = (n : Int) := by unfold wrap64; omega
        clear HBB HU
        go_wp2
        go_ret2
        exact ⟨⟨_, true, rfl, by omega, by omega, by rw [HF.out]; rfl⟩, rfl⟩
      · have HF := Lib.hid (show unsC l = none by rw [HU.out, HBB.out]; exact if_neg hn1)
        have q3 : decide ((n : Int) ≤ 9223372036854775807) = false := decide_eq_false (by omega)
        clear HBB HU
        go_wp2
        go_ret2
        exact ⟨⟨_, false, rfl, (by unfold wrap64; omega), (by unfold wrap64; omega), by rw [HF.out]; rfl⟩, rfl⟩

end Go.Proofs.YtfpidkcdgebnpaaGreatDoor


/-
  Bytes' digits read, as the document's own answer for layer 4 tells them.
-/
namespace Go.Proofs.YtfpidkcdgebnpaaGreatDoor
open Go.RowKit

def unhexV : List UInt8 → Option (List UInt8)
  | [] => some []
  | [_] => none
  | a :: b :: r => if 0 ≤ digV a.toNat ∧ 0 ≤ digV b.toNat then (unhexV r).map (UInt8.ofNat (16 * digV a.toNat + digV b.toNat).toNat :: ·) else none

/-- The bytes that digits tell. -/
def unhexC (l : List UInt8) : Option (List UInt8) := if l = [45] then some [] else if l = [] then none else unhexV l

theorem unhexV_odd : ∀ (l : List UInt8), l.length % 2 = 1 → unhexV l = none
  | [], h => by simp at h
  | [_], _ => rfl
  | a :: b :: r, h => by
    rw [unhexV, unhexV_odd r (by simp at h; omega)]
    split <;> rfl

theorem drop_cons2 {l : List UInt8} {k : Nat} (h : k + 1 < l.length) : l.drop k = l.getD k 0 :: l.getD (k + 1) 0 :: l.drop (k + 2) := by
  rw [drop_cons8 (by omega), drop_cons8 h]

theorem digV_bounds (c : Nat) : -1 ≤ digV c ∧ digV c ≤ 15 := by
  unfold digV; split
  · omega
  · split <;> omega

/-- What is read of bytes' digits is the bytes. -/
theorem unhexV_hexL (l : List UInt8) : unhexV (hexL l) = some l := by
  induction l with
  | nil => rfl
  | cons a r ih =>
    have ha := a.toNat_lt
    have e : hexL (a :: r) = dig (a.toNat / 16) :: dig (a.toNat % 16) :: hexL r := by unfold hexL; simp
    rw [e, unhexV, ih, digV_dig (by omega), digV_dig (by omega), if_pos (by omega)]
    simp
    rw [show (16 * ((a.toNat : Int) / 16) + (a.toNat : Int) % 16).toNat = a.toNat by omega]
    simp

theorem unhexC_hexC (l : List UInt8) : unhexC (hexC l) = some l := by
  unfold unhexC hexC
  by_cases h : l = []
  · rw [if_pos h, if_pos rfl, h]
  · have hl := hexL_len l
    have h0 : 0 < l.length := List.length_pos_iff.mpr h
    rw [if_neg h, if_neg (by intro e; rw [e] at hl; simp at hl; omega), if_neg (by intro e; rw [e] at hl; simp at hl; omega)]
    exact unhexV_hexL l

set_option maxHeartbeats 2000000 in
set_option maxRecDepth 1000000 in
theorem ref_Unhex (s : ByteArray) (l : List UInt8) (w : World) (h : RdS s l) :
    Calls Tryz.prog 129 #[.string s] w fun e w' => (∃ (t : ByteArray) (m : List UInt8) (b : Bool), e = .returned (.tuple #[.string t, .bool b]) ∧ RdS t m ∧ unhexC l = (if b = true then some m else none)) ∧ Below w.heap.size w w' := by
  have hlen := h.len
  have hidx := h.idx
  have hsm := h.small
  have htl := h.toList
  by_cases h45 : l = [45]
  · have q1 : (s.toList == [45]) = true := by rw [htl, h45]; rfl
    have HF := Lib.hid (show unhexC l = some [] from if_pos h45)
    clear htl h45
    go_enter Tryz.func129, Tryz.ntmps129
    go_wp2
    go_ret2
    exact ⟨⟨_, [], true, rfl, ⟨rfl, by simp⟩, by rw [HF.out]; rfl⟩, Below.refl _ _⟩
  have q1 : (s.toList == [45]) = false := by rw [htl]; simpa using h45
  by_cases hem : l = []
  · have q2 : s.toList.isEmpty = true := by rw [htl, hem]; rfl
    have HF := Lib.hid (show unhexC l = none by unfold unhexC; rw [if_neg h45, if_pos hem])
    clear htl h45 hem
    go_enter Tryz.func129, Tryz.ntmps129
    go_wp2
    go_ret2
    exact ⟨⟨_, [], false, rfl, ⟨rfl, by simp⟩, by rw [HF.out]; rfl⟩, Below.refl _ _⟩
  have q2 : s.toList.isEmpty = false := by rw [htl]; cases l <;> simp_all
  have HU := Lib.hid (show unhexC l = unhexV l by unfold unhexC; rw [if_neg h45, if_neg hem])
  clear htl h45 hem
  by_cases hodd : l.length % 2 = 1
  · have q3 : ((l.length : Int) % 2 != 0) = true := by simp; omega
    have HF := Lib.hid (show unhexC l = none by rw [HU.out]; exact unhexV_odd l hodd)
    clear hodd
    go_enter Tryz.func129, Tryz.ntmps129
    go_wp2
    go_ret2
    exact ⟨⟨_, [], false, rfl, ⟨rfl, by simp⟩, by rw [HF.out]; rfl⟩, Below.refl _ _⟩
  obtain ⟨z, hz⟩ : ∃ z, l.length = 2 * z := ⟨l.length / 2, by omega⟩
  have q3 : ((l.length : Int) % 2 != 0) = false := by simp; omega
  have HZ := Lib.hid hz
  clear hodd hz
  go_enter Tryz.func129, Tryz.ntmps129
  go_wp2
  go_loopw [4, 5] (fun a i wr => ∃ (k j : Nat) (m : List UInt8), k ≤ z ∧ Hid (j = 2 * k) ∧ i = .int .i64 (j : Int) ∧ Hid (m.length = k) ∧ Hid (unhexV l = (unhexV (l.drop j)).map (m ++ ·)) ∧ Own wr w.heap.size a m ∧ Below w.heap.size w wr) (fun _ i _ => l.length - (intOf i).toNat)
  case atStart => exact ⟨0, 0, [], by omega, Lib.hid rfl, rfl, Lib.hid rfl, Lib.hid (by simp), own_nil _ _, Below.refl _ _⟩
  case round =>
    obtain ⟨k, j, m, hk, HJ, rfl, HM, HV, hown, hbel⟩ := hrel
    have hj := HJ.out
    have hz := HZ.out
    by_cases hlt : k < z
    · have hx := hidx j (by omega)
      have hy := hidx (j + 1) (by omega)
      rw [show ((j + 1 : Nat) : Int) = (j : Int) + 1 from by omega] at hy
      obtain ⟨c, hc⟩ : ∃ c : Nat, at8 l j = (c : Int) := ⟨(l.getD j 0).toNat, rfl⟩
      obtain ⟨d, hd⟩ : ∃ d : Nat, at8 l (j + 1) = (d : Int) := ⟨(l.getD (j + 1) 0).toNat, rfl⟩
      have hcc : (l.getD j 0).toNat = c := by unfold at8 at hc; omega
      have hdd : (l.getD (j + 1) 0).toNat = d := by unfold at8 at hd; omega
      have hc1 := at8_hi l j
      have hd1 := at8_hi l (j + 1)
      rw [hc] at hc1 hx
      rw [hd] at hd1 hy
      have HS := Lib.hid (show unhexV (l.drop j) = if 0 ≤ digV c ∧ 0 ≤ digV d then (unhexV (l.drop (j + 2))).map (UInt8.ofNat (16 * digV c + digV d).toNat :: ·) else none by
        rw [drop_cons2 (by omega), unhexV, hcc, hdd])
      clear hidx hc hd hcc hdd
      have hcb := digV_bounds c
      have hdb := digV_bounds d
      obtain ⟨x, hx9⟩ : ∃ x, x = digV c := ⟨_, rfl⟩
      obtain ⟨y, hy9⟩ : ∃ y, y = digV d := ⟨_, rfl⟩
      have HX := Lib.hid hx9
      have HY := Lib.hid hy9
      rw [← hx9] at hcb
      rw [← hy9] at hdb
      clear hx9 hy9
      by_cases hok : 0 ≤ x ∧ 0 ≤ y
      · have p1 : decide (x < 0) = false := decide_eq_false (by omega)
        have p2 : decide (y < 0) = false := decide_eq_false (by omega)
        have hq2 : 0 ≤ 16 * x + y ∧ 16 * x + y ≤ 255 := by omega
        have hbelA : Below w.heap.size w (wr.alloc (.cells #[.int .u8 (16 * x + y)] 5)) := hbel.alloc hbel.size _
        have hjl : j + 1 < l.length := by omega
        have hz9 : k + 1 ≤ z := by omega
        clear hj hz
        go_wp2_with fail
        refine (ref_digit c (by omega) _).mono ?_
        rintro e w1 ⟨rfl, rfl⟩
        rw [← HX.out]
        go_wp2_with fail
        refine (ref_digit d (by omega) _).mono ?_
        rintro e w1 ⟨rfl, rfl⟩
        rw [← HY.out]
        go_wp2_with (with_reducible refine wpl_append w.heap.size _ m ?hs (hown.alloc _) _ [UInt8.ofNat (16 * x + y).toNat] ?hx (rd_one wr (16 * x + y) (by omega) (by omega)) ?hn ?hbase w.heap.size w hbelA (Nat.le_refl _) ?_)
        case hs => rfl
        case hx => rfl
        case hn => have := HM.out; have := HJ.out; simp; omega
        case hbase => have := hbel.size; simp; omega
        intro v' w' hown' hbel' _
        go_wp2
        go_roundw
        case rel =>
          refine ⟨k + 1, j + 2, m ++ [UInt8.ofNat (16 * x + y).toNat], by omega, Lib.hid (by have := HJ.out; omega), by push_cast; rfl, Lib.hid (by simp [HM.out]), Lib.hid ?_, hown', hbel'⟩
          rw [HV.out, HS.out, ← HX.out, ← HY.out, if_pos hok]
          cases unhexV (l.drop (j + 2)) <;> simp
        case measure => simp [intOf]; omega
      · have HF := Lib.hid (show unhexC l = none by rw [HU.out, HV.out, HS.out, ← HX.out, ← HY.out, if_neg hok]; rfl)
        have hjl : j + 1 < l.length := by omega
        clear hj hz
        by_cases hx0 : x < 0
        · have p1 : decide (x < 0) = true := decide_eq_true hx0
          go_wp2_with fail
          refine (ref_digit c (by omega) _).mono ?_
          rintro e w1 ⟨rfl, rfl⟩
          rw [← HX.out]
          go_wp2_with fail
          refine (ref_digit d (by omega) _).mono ?_
          rintro e w1 ⟨rfl, rfl⟩
          rw [← HY.out]
          go_wp2
          go_ret2
          exact ⟨⟨_, [], false, rfl, ⟨rfl, by simp⟩, by rw [HF.out]; rfl⟩, hbel⟩
        · have p1 : decide (x < 0) = false := decide_eq_false hx0
          have p2 : decide (y < 0) = true := decide_eq_true (by omega)
          go_wp2_with fail
          refine (ref_digit c (by omega) _).mono ?_
          rintro e w1 ⟨rfl, rfl⟩
          rw [← HX.out]
          go_wp2_with fail
          refine (ref_digit d (by omega) _).mono ?_
          rintro e w1 ⟨rfl, rfl⟩
          rw [← HY.out]
          go_wp2
          go_ret2
          exact ⟨⟨_, [], false, rfl, ⟨rfl, by simp⟩, by rw [HF.out]; rfl⟩, hbel⟩
    · obtain rfl : k = z := by omega
      have HV2 := Lib.hid (show unhexC l = some m by rw [HU.out, HV.out, show l.drop j = [] from List.drop_of_length_le (by omega)]; simp [unhexV])
      have hm9 : m.length ≤ 140737488351232 := by rw [HM.out]; omega
      have hjl : ¬ (j < l.length) := by omega
      clear hj hz
      have hstr := (hown.rd hm9).str
      go_wp2
      go_ret2
      exact ⟨⟨_, m, true, rfl, ⟨rfl, hm9⟩, by rw [HV2.out]; rfl⟩, hbel⟩

end Go.Proofs.YtfpidkcdgebnpaaGreatDoor


/-
  A cell's text, as the document's own answer for layer 4 tells it.
-/
namespace Go.Proofs.YtfpidkcdgebnpaaGreatDoor
open Go.RowKit

/-- n digits to the base 16. -/
def hexN : Nat → Nat → List UInt8
  | 0, _ => []
  | n + 1, x => hexN n (x / 16) ++ [dig (x % 16)]

theorem hexN_len : ∀ (n x : Nat), (hexN n x).length = n
  | 0, x => rfl
  | n + 1, x => by rw [hexN, List.length_append, hexN_len]; rfl

def textC (kind : Int) (x : Nat) (l : List UInt8) : List UInt8 :=
  if kind = 0 then sdec (wrap64 (x : Int)) else if kind = 1 then dec x else if kind = 2 then (if x = 0 then [102, 97, 108, 115, 101] else [116, 114, 117, 101]) else if kind = 5 then hexN 16 x else hexC l

set_option maxHeartbeats 2000000 in
set_option maxRecDepth 1000000 in
theorem ref_Text0 (x : Nat) (hx : x < 18446744073709551616) (s : ByteArray) (l : List UInt8) (w : World) (hs : RdS s l) (hb : l.length ≤ 70368744175616) :
    Calls Tryz.prog 92 #[.int .i64 0, cellV x s] w fun e w' => (∃ t, e = .returned (.string t) ∧ RdS t (sdec (wrap64 (x : Int)))) ∧ Below w.heap.size w w' := by
  have hbl : Below w.heap.size w (w.alloc (.cells #[.int .u64 (x : Int), .string s] 71)) := (Below.refl _ w).alloc (Nat.le_refl _) _
  have HB := Lib.hid hbl
  have HS := Lib.hid hs
  clear hbl hs
  unfold cellV
  go_enter Tryz.func92, Tryz.ntmps92
  go_wp2_with fail
  refine (ref_Signed _ (by unfold wrap64; omega) (by unfold wrap64; omega) _).mono ?_
  rintro e w1 ⟨⟨t, rfl, ht⟩, rfl⟩
  go_wp2
  go_ret
  exact ⟨⟨_, rfl, ht⟩, HB.out⟩

set_option maxHeartbeats 2000000 in
set_option maxRecDepth 1000000 in
theorem ref_Text1 (x : Nat) (hx : x < 18446744073709551616) (s : ByteArray) (l : List UInt8) (w : World) (hs : RdS s l) (hb : l.length ≤ 70368744175616) :
    Calls Tryz.prog 92 #[.int .i64 1, cellV x s] w fun e w' => (∃ t, e = .returned (.string t) ∧ RdS t (dec x)) ∧ Below w.heap.size w w' := by
  have hbl : Below w.heap.size w (w.alloc (.cells #[.int .u64 (x : Int), .string s] 71)) := (Below.refl _ w).alloc (Nat.le_refl _) _
  have HB := Lib.hid hbl
  have HS := Lib.hid hs
  clear hbl hs
  unfold cellV
  go_enter Tryz.func92, Tryz.ntmps92
  go_wp2_with fail
  refine (ref_Decimal x hx _).mono ?_
  rintro e w1 ⟨⟨t, rfl, ht⟩, rfl⟩
  go_wp2
  go_ret
  exact ⟨⟨_, rfl, ht⟩, HB.out⟩

set_option maxHeartbeats 2000000 in
set_option maxRecDepth 1000000 in
theorem ref_Text3 (x : Nat) (hx : x < 18446744073709551616) (s : ByteArray) (l : List UInt8) (w : World) (hs : RdS s l) (hb : l.length ≤ 70368744175616) :
    Calls Tryz.prog 92 #[.int .i64 3, cellV x s] w fun e w' => (∃ t, e = .returned (.string t) ∧ RdS t (hexC l)) ∧ Below w.heap.size w w' := by
  have hbl : Below w.heap.size w (w.alloc (.cells #[.int .u64 (x : Int), .string s] 71)) := (Below.refl _ w).alloc (Nat.le_refl _) _
  have HB := Lib.hid hbl
  have HS := Lib.hid hs
  clear hbl hs
  unfold cellV
  go_enter Tryz.func92, Tryz.ntmps92
  go_wp2_with fail
  refine (ref_Hex s l _ HS.out hb).mono ?_
  rintro e w1 ⟨⟨t, rfl, ht⟩, hb1⟩
  have HB1 := Lib.hid hb1
  clear hb1
  go_wp2
  go_ret
  exact ⟨⟨_, rfl, ht⟩, HB.out.trans (HB1.out.mono (by simp))⟩

set_option maxHeartbeats 2000000 in
set_option maxRecDepth 1000000 in
theorem ref_Text4 (x : Nat) (hx : x < 18446744073709551616) (s : ByteArray) (l : List UInt8) (w : World) (hs : RdS s l) (hb : l.length ≤ 70368744175616) :
    Calls Tryz.prog 92 #[.int .i64 4, cellV x s] w fun e w' => (∃ t, e = .returned (.string t) ∧ RdS t (hexC l)) ∧ Below w.heap.size w w' := by
  have hbl : Below w.heap.size w (w.alloc (.cells #[.int .u64 (x : Int), .string s] 71)) := (Below.refl _ w).alloc (Nat.le_refl _) _
  have HB := Lib.hid hbl
  have HS := Lib.hid hs
  clear hbl hs
  unfold cellV
  go_enter Tryz.func92, Tryz.ntmps92
  go_wp2_with fail
  refine (ref_Hex s l _ HS.out hb).mono ?_
  rintro e w1 ⟨⟨t, rfl, ht⟩, hb1⟩
  have HB1 := Lib.hid hb1
  clear hb1
  go_wp2
  go_ret
  exact ⟨⟨_, rfl, ht⟩, HB.out.trans (HB1.out.mono (by simp))⟩

set_option maxHeartbeats 2000000 in
set_option maxRecDepth 1000000 in
theorem ref_Text5 (x : Nat) (hx : x < 18446744073709551616) (s : ByteArray) (w : World) :
    Calls Tryz.prog 92 #[.int .i64 5, cellV x s] w fun e w' => (∃ t, e = .returned (.string t) ∧ RdS t (hexN 16 x)) ∧ Below w.heap.size w w' := by
  have hbl : Below w.heap.size w (w.alloc (.cells #[.int .u64 (x : Int), .string s] 71)) := (Below.refl _ w).alloc (Nat.le_refl _) _
  have HB := Lib.hid hbl
  clear hbl
  unfold cellV
  go_enter Tryz.func92, Tryz.ntmps92
  go_wp2
  go_loopw [5, 6, 7] (fun a b c wr => ∃ (k y : Nat) (t : ByteArray) (l : List UInt8), k ≤ 16 ∧ y < 18446744073709551616 ∧ a = .string t ∧ b = .int .u64 y ∧ c = .int .i64 (k : Int) ∧ Hid (RdS t l) ∧ Hid (l.length = k) ∧ Hid (hexN 16 x = hexN (16 - k) y ++ l) ∧ Hid (Below w.heap.size w wr)) (fun _ _ c _ => 16 - (intOf c).toNat)
  case atStart => exact ⟨0, x, _, [], by omega, hx, rfl, rfl, rfl, Lib.hid ⟨rfl, by simp⟩, Lib.hid rfl, Lib.hid (by simp), HB⟩
  case round =>
    obtain ⟨k, y, t, l, hk, hy, rfl, rfl, rfl, HS, HL, HN, HBR⟩ := hrel
    by_cases hgo : k < 16
    · have hlk := HL.out
      have hss := HS.out.size
      have hm : (y : Int) % 16 = ((y % 16 : Nat) : Int) := by omega
      obtain ⟨r, hr⟩ : ∃ r, r = y % 16 := ⟨_, rfl⟩
      have hr16 : r < 16 := by omega
      rw [← hr] at hm
      obtain ⟨d, hd⟩ : ∃ d : ByteArray, d = ⟨#[dig r]⟩ := ⟨_, rfl⟩
      have hext : ({ data := #[48, 49, 50, 51, 52, 53, 54, 55, 56, 57, 97, 98, 99, 100, 101, 102] } : ByteArray).extract r (r + 1) = d := by rw [hd]; exact digit_at hr16
      have hdS : RdS d [dig r] := ⟨hd, by simp⟩
      have hds : d.size = 1 := hdS.size
      have hsz : ¬ (d.size + t.size > 9223372036854775807) := by omega
      have HA := Lib.hid (hdS.app HS.out (by rw [show [dig r].length = 1 from rfl]; omega))
      have HN2 := Lib.hid (show hexN 16 x = hexN (16 - (k + 1)) (y / 16) ++ ([dig r] ++ l) by
        rw [HN.out, show 16 - k = (16 - (k + 1)) + 1 from by omega, hexN, ← hr, List.append_assoc])
      clear hr hd hdS hds hss hlk
      go_wp2
      go_roundw
      case rel => exact ⟨k + 1, y / 16, d ++ t, [dig r] ++ l, by omega, by omega, rfl, by go_num, by go_num, HA, Lib.hid (by simp [HL.out]), HN2, HBR⟩
      case measure => simp [intOf]; omega
    · obtain rfl : k = 16 := by omega
      have HF := Lib.hid (show hexN 16 x = l by rw [HN.out]; rfl)
      clear hgo
      go_wp2
      go_ret
      exact ⟨⟨_, rfl, by rw [HF.out]; exact HS.out⟩, HBR.out⟩

set_option maxHeartbeats 2000000 in
set_option maxRecDepth 1000000 in
theorem ref_Text2 (x : Nat) (hx : x < 2) (s : ByteArray) (w : World) :
    Calls Tryz.prog 92 #[.int .i64 2, cellV x s] w fun e w' => (∃ t, e = .returned (.string t) ∧ RdS t (if x = 0 then [102, 97, 108, 115, 101] else [116, 114, 117, 101])) ∧ Below w.heap.size w w' := by
  have hbl : Below w.heap.size w (w.alloc (.cells #[.int .u64 (x : Int), .string s] 71)) := (Below.refl _ w).alloc (Nat.le_refl _) _
  have HB := Lib.hid hbl
  clear hbl
  unfold cellV
  obtain rfl | rfl : x = 0 ∨ x = 1 := by omega
  · go_enter Tryz.func92, Tryz.ntmps92
    go_wp2
    go_ret
    refine ⟨⟨_, rfl, ⟨rfl, by simp⟩⟩, ?_⟩
    exact HB.out.alloc (by simp) _
  · go_enter Tryz.func92, Tryz.ntmps92
    go_wp2
    go_ret
    refine ⟨⟨_, rfl, ⟨rfl, by simp⟩⟩, ?_⟩
    exact HB.out.alloc (by simp) _

/-- A cell's text, for a cell that may be. -/
theorem ref_Text (kind : Int) (x : Nat) (s : ByteArray) (l : List UInt8) (w : World) (hk : 0 ≤ kind ∧ kind ≤ 5) (hx : x < 18446744073709551616) (h2 : kind = 2 → x < 2) (hs : RdS s l) (hb : l.length ≤ 70368744175616) :
    Calls Tryz.prog 92 #[.int .i64 kind, cellV x s] w fun e w' => (∃ t, e = .returned (.string t) ∧ RdS t (textC kind x l)) ∧ Below w.heap.size w w' := by
  obtain rfl | rfl | rfl | rfl | rfl | rfl : kind = 0 ∨ kind = 1 ∨ kind = 2 ∨ kind = 3 ∨ kind = 4 ∨ kind = 5 := by omega
  · rw [show textC 0 x l = sdec (wrap64 (x : Int)) from by unfold textC; simp]; exact ref_Text0 x hx s l w hs hb
  · rw [show textC 1 x l = dec x from by unfold textC; simp]; exact ref_Text1 x hx s l w hs hb
  · rw [show textC 2 x l = (if x = 0 then [102, 97, 108, 115, 101] else [116, 114, 117, 101]) from by unfold textC; simp]; exact ref_Text2 x (h2 rfl) s w
  · rw [show textC 3 x l = hexC l from by unfold textC; simp]; exact ref_Text3 x hx s l w hs hb
  · rw [show textC 4 x l = hexC l from by unfold textC; simp]; exact ref_Text4 x hx s l w hs hb
  · rw [show textC 5 x l = hexN 16 x from by unfold textC; simp]; exact ref_Text5 x hx s w

end Go.Proofs.YtfpidkcdgebnpaaGreatDoor

