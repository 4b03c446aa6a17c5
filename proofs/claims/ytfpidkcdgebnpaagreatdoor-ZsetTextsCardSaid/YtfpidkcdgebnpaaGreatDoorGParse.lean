/-
  The library's ParseUint at base 16.
-/
import Derived.Test.YtfpidkcdgebnpaaGreatDoorGCellT
import Derived.Lib.AtoiAll
import Derived.Shelf.Strconv.ToErrorRange
import Derived.Test.YtfpidkcdgebnpaaGreatDoorShelf3
import Derived.Lib.ParseIntB
import Derived.Shelf.Strconv.ParseBool
import Derived.Test.YtfpidkcdgebnpaaGreatDoorGHex
import Derived.Shelf.Strings.SlTrimAscii
set_option linter.unusedVariables false
set_option linter.unusedSimpArgs false
set_option maxRecDepth 1000000
namespace Go.Proofs.YtfpidkcdgebnpaaGreatDoor
open Go.RowKit Go.Shelf

/-- What a sign is worth at base 16. -/
def digX (c : Nat) : Option Nat := if 48 ≤ c ∧ c ≤ 57 then some (c - 48) else if 97 ≤ c ||| 32 ∧ c ||| 32 ≤ 102 then some ((c ||| 32) - 87) else none
def parseX : Nat → List UInt8 → Lib.NumEnd Nat
  | acc, [] => .ok acc
  | acc, c :: r => match digX c.toNat with
    | none => .«syntax»
    | some d => if 1152921504606846976 ≤ acc then .range else parseX (acc * 16 + d) r
def endX : Lib.NumEnd Nat → Value
  | .ok u => .tuple #[.int .u64 (u : Int), .nilIface]
  | .«syntax» => .tuple #[.int .u64 0, .iface 259 (.int .i64 2)]
  | .range => .tuple #[.int .u64 18446744073709551615, .iface 259 (.int .i64 1)]

theorem parseX_digit {acc : Nat} {c : UInt8} {r : List UInt8} {d : Nat} (h : digX c.toNat = some d) : parseX acc (c :: r) = if 1152921504606846976 ≤ acc then .range else parseX (acc * 16 + d) r := by rw [parseX, h]
theorem parseX_none {acc : Nat} {c : UInt8} {r : List UInt8} (h : digX c.toNat = none) : parseX acc (c :: r) = .«syntax» := by rw [parseX, h]

theorem lib_lower (c : Nat) (hc : c < 256) (w : World) : Calls Tryz.prog 206 #[.int .u8 (c : Int)] w fun e w' => e = .returned (.int .u8 ((c ||| 32 : Nat) : Int)) ∧ w' = w := by
  have h := u8_or_nat c 32 hc (by omega)
  rw [show ((32 : Nat) : Int) = 32 from rfl] at h
  go_enter Tryz.func206, Tryz.ntmps206
  go_wp2
  go_ret
  exact ⟨rfl, rfl⟩

theorem or32_lt {c : Nat} (hc : c < 256) : c ||| 32 < 256 := Nat.or_lt_two_pow (n := 8) hc (by decide)

set_option maxHeartbeats 8000000 in
theorem intl_ParseHex (t : ByteArray) (l : List UInt8) (hR : RdS t l) (hne : l ≠ []) (w : World) :
    Calls Tryz.prog 196 #[.string t, .int .i64 16, .int .i64 64] w fun e w' => e = .returned (endX (parseX 0 l)) ∧ Below w.heap.size w w' := by
  have hemp : t.toList.isEmpty = false := by rw [hR.toList]; cases l <;> simp_all
  have hcv := Lib.run_convert_string_bytes (P := Tryz.prog) w 9 135 5 t (u := .string) Tryz.underlying9 Tryz.underlying135 Tryz.underlying5
  have hB : ∀ j, j < t.size → (Lib.bytesWorld w 5 t).cell? ⟨w.heap.size, j, none⟩ = some (.int .u8 (t.data.toList.getD j 0).toNat) := fun j hj => Lib.bytesWorld_cell w 5 t j hj
  have hBW := Lib.hid (Lib.bytesWorld_below w 5 t)
  obtain ⟨W1, hW1⟩ : ∃ W1, W1 = Lib.bytesWorld w 5 t := ⟨_, rfl⟩
  rw [← hW1] at hcv hB hBW
  have hLn : l.length = t.size := by rw [hR.size]
  have hdl := hR.dl
  have hsm := hR.small
  rw [hdl] at hB
  clear hW1 hdl
  have hmv : IntKind.u64.wrap (IntKind.u64.wrap 18446744073709551616 - 1) = 18446744073709551615 := by
    rw [IntKind.wrap_u64, IntKind.wrap_u64]
    decide
  go_enter Tryz.func196, Tryz.ntmps196
  go_wp2
  go_loop [12, 13, 101] (fun vu vn vi => ∃ (k acc : Nat) (a : Int), vu = .bool false ∧ vn = .int .u64 a ∧ vi = .int .i64 k ∧ k ≤ t.size ∧ Hid (a = (acc : Int) ∧ acc < 18446744073709551616 ∧ parseX 0 l = parseX acc (l.drop k)))
    (fun _ _ vi => t.size - (intOf vi).toNat)
  case atStart => exact ⟨0, 0, 0, rfl, rfl, rfl, by omega, rfl, by omega, rfl⟩
  case round =>
    obtain ⟨k, acc, a, rfl, rfl, rfl, hk, hh⟩ := hrel
    obtain ⟨ha, hacc, hdec⟩ := hh.out
    clear hh
    have a0 : 0 ≤ a := by omega
    have a1 : a < 18446744073709551616 := by omega
    by_cases hkn : k < t.size
    · have hc := hB k hkn
      have hdrop : l.drop k = l[k]'(by omega) :: l.drop (k + 1) := List.drop_eq_getElem_cons (by omega)
      have hget : l.getD k 0 = l[k]'(by omega) := by simp [List.getD, List.getElem?_eq_getElem (show k < l.length by omega)]
      rw [hdrop] at hdec
      rw [hget] at hc
      generalize l[k]'(by omega) = c at hc hdec
      have hc256 : c.toNat < 256 := c.toNat_lt
      clear hB hdrop hget
      by_cases hdig : 48 ≤ c.toNat ∧ c.toNat ≤ 57
      · have hdx : digX c.toNat = some (c.toNat - 48) := by unfold digX; rw [if_pos hdig]
        obtain ⟨hd0, hd1⟩ := hdig
        rw [parseX_digit hdx] at hdec
        by_cases hcut : 1152921504606846976 ≤ acc
        · rw [if_pos hcut] at hdec
          have icut : 1152921504606846976 ≤ a := by omega
          have HD := Lib.hid hdec
          clear hcut hacc ha hdx hdec
          go_wp2
          go_ret2
          exact ⟨by rw [HD.out]; rfl, hBW.out⟩
        · rw [if_neg hcut] at hdec
          have HN : Hid (a * 16 + ((c.toNat : Int) - 48) = ((acc * 16 + (c.toNat - 48) : Nat) : Int) ∧ acc * 16 + (c.toNat - 48) < 18446744073709551616 ∧ parseX 0 l = parseX (acc * 16 + (c.toNat - 48)) (l.drop (k + 1))) := Lib.hid ⟨by omega, by omega, hdec⟩
          have icut : a < 1152921504606846976 := by omega
          clear hcut hacc hdec ha hdx
          go_wp2
          refine ⟨⟨k + 1, acc * 16 + (c.toNat - 48), a * 16 + ((c.toNat : Int) - 48), rfl, (by first | rfl | (congr 1; omega)), (by first | rfl | (congr 1; omega)), by omega, HN⟩, by simp [intOf]; omega⟩
      · by_cases h95 : c.toNat = 95
        · have hdx : digX c.toNat = none := by rw [h95]; decide
          have hlow : ∀ W, Calls Tryz.prog 206 #[.int .u8 95] W fun e w' => e = .returned (.int .u8 127) ∧ w' = W := fun W => lib_lower 95 (by omega) W
          rw [parseX_none hdx] at hdec
          rw [h95] at hc
          have hc' : W1.cell? ⟨w.heap.size, k, none⟩ = some (.int .u8 95) := hc
          have HD := Lib.hid hdec
          clear hacc ha hdx hdec hc h95 hdig hc256
          go_wp2_with (go_at_call 206; refine (hlow _).mono ?_; rintro e w' ⟨rfl, rfl⟩)
          go_ret2
          exact ⟨by rw [HD.out]; rfl, hBW.out⟩
        · have hne95 : ((c.toNat : Int) == 95) = false := by simp; omega
          have hlow := lib_lower c.toNat hc256
          have hlo256 := or32_lt hc256
          obtain ⟨lo, hlo⟩ : ∃ lo, c.toNat ||| 32 = lo := ⟨_, rfl⟩
          rw [hlo] at hlow hlo256
          by_cases hx : 97 ≤ lo ∧ lo ≤ 102
          · have hdx : digX c.toNat = some (lo - 87) := by unfold digX; rw [if_neg hdig, hlo, if_pos hx]
            obtain ⟨hx0, hx1⟩ := hx
            rw [parseX_digit hdx] at hdec
            by_cases hcut : 1152921504606846976 ≤ acc
            · rw [if_pos hcut] at hdec
              have icut : 1152921504606846976 ≤ a := by omega
              have HD := Lib.hid hdec
              clear hcut hacc ha hdx hdec hlo
              go_wp2_with (go_at_call 206; refine (hlow _).mono ?_; rintro e w' ⟨rfl, rfl⟩)
              all_goals go_ret2
              all_goals exact ⟨by rw [HD.out]; rfl, hBW.out⟩
            · rw [if_neg hcut] at hdec
              have HN : Hid (a * 16 + ((lo : Int) - 97 + 10) = ((acc * 16 + (lo - 87) : Nat) : Int) ∧ acc * 16 + (lo - 87) < 18446744073709551616 ∧ parseX 0 l = parseX (acc * 16 + (lo - 87)) (l.drop (k + 1))) := Lib.hid ⟨by omega, by omega, hdec⟩
              have icut : a < 1152921504606846976 := by omega
              clear hcut hacc hdec ha hdx hlo
              go_wp2_with (go_at_call 206; refine (hlow _).mono ?_; rintro e w' ⟨rfl, rfl⟩)
              all_goals refine ⟨⟨k + 1, acc * 16 + (lo - 87), a * 16 + ((lo : Int) - 97 + 10), rfl, (by first | rfl | (congr 1; omega)), (by first | rfl | (congr 1; omega)), by omega, HN⟩, by simp [intOf]; omega⟩
          · have hdx : digX c.toNat = none := by unfold digX; rw [if_neg hdig, hlo, if_neg hx]
            rw [parseX_none hdx] at hdec
            have HD := Lib.hid hdec
            clear hacc ha hdx hdec hlo
            go_wp2_with (go_at_call 206; refine (hlow _).mono ?_; rintro e w' ⟨rfl, rfl⟩)
            all_goals first | (exfalso; omega) | skip
            all_goals go_ret2
            all_goals exact ⟨by rw [HD.out]; rfl, hBW.out⟩
    · have hkk : k = t.size := by omega
      subst hkk
      have hF : parseX acc (l.drop t.size) = .ok acc := by rw [List.drop_eq_nil_of_le (by omega)]; rfl
      rw [hF] at hdec
      have HD := Lib.hid hdec
      subst ha
      clear hacc hF a0 a1 hdec
      go_wp2
      go_ret2
      exact ⟨by rw [HD.out]; rfl, hBW.out⟩

end Go.Proofs.YtfpidkcdgebnpaaGreatDoor


/-
  The library's strconv, as package cell calls it: numbers and truth values read.
-/
namespace Go.Proofs.YtfpidkcdgebnpaaGreatDoor
open Go.RowKit Go.Shelf

/-- How a reading ends: the number and no error; or some number, and an error. -/
def PE {α : Type} (o : Option α) (y : α) (ev : Value) : Prop := (o = some y ∧ ev = .nilIface) ∨ (o = none ∧ ∃ tp p, ev = .iface tp p)

structure Errs (w : World) : Prop where
  syn : ∃ tp p, w.var? Tryz.prog "strconv.ErrSyntax" = some #[.iface tp p]
  rng : ∃ tp p, w.var? Tryz.prog "strconv.ErrRange" = some #[.iface tp p]
theorem Errs.later {w w' : World} (h : Errs w) (hb : Below w.heap.size w w') : Errs w' := by
  obtain ⟨⟨t1, p1, h1⟩, ⟨t2, p2, h2⟩⟩ := h
  exact ⟨⟨t1, p1, Joins.var_stays (show Tryz.prog.globalNamed "strconv.ErrSyntax" = some 7 by kernel_rfl) h1 hb (Nat.le_refl _)⟩,
    ⟨t2, p2, Joins.var_stays (show Tryz.prog.globalNamed "strconv.ErrRange" = some 8 by kernel_rfl) h2 hb (Nat.le_refl _)⟩⟩
theorem Errs.synC {w : World} (h : Errs w) : ∃ ev, w.cell? ⟨7, 0, none⟩ = some ev ∧ (ev = .nilIface ∨ ∃ te pe, ev = .iface te pe) := by
  obtain ⟨t1, p1, h1⟩ := h.syn
  have h0 := World.var?_cell (show Tryz.prog.globalNamed "strconv.ErrSyntax" = some 7 by kernel_rfl) h1 0
  exact ⟨_, by simpa using h0, .inr ⟨t1, p1, rfl⟩⟩
theorem Errs.rngC {w : World} (h : Errs w) : ∃ ev, w.cell? ⟨8, 0, none⟩ = some ev ∧ (ev = .nilIface ∨ ∃ te pe, ev = .iface te pe) := by
  obtain ⟨t1, p1, h1⟩ := h.rng
  have h0 := World.var?_cell (show Tryz.prog.globalNamed "strconv.ErrRange" = some 8 by kernel_rfl) h1 0
  exact ⟨_, by simpa using h0, .inr ⟨t1, p1, rfl⟩⟩

theorem RdS.sz {s : ByteArray} {l : List UInt8} (h : RdS s l) : s.size ≤ 140737488351232 := by rw [h.size]; exact h.small

def okE {α : Type} : Lib.NumEnd α → Option α
  | .ok v => some v
  | _ => none

theorem parseUintM_le (M : Nat) : ∀ (l : List UInt8) (acc u : Nat), acc ≤ M → Lib.parseUintM M acc l = .ok u → u ≤ M
  | [], acc, u, ha, h => by
    simp only [Lib.parseUintM, Lib.NumEnd.ok.injEq] at h
    omega
  | c :: r, acc, u, ha, h => by
    unfold Lib.parseUintM at h
    split at h
    · split at h
      · cases h
      · split at h
        · cases h
        · exact parseUintM_le M r _ u (by omega) h
    · cases h
theorem parseUintB_lt {l : List UInt8} {u : Nat} (h : Lib.parseUintB 64 l = .ok u) : u < 18446744073709551616 := by
  unfold Lib.parseUintB at h
  split at h
  · cases h
  · have := parseUintM_le (2 ^ 64 - 1) l 0 u (by omega) h
    omega

theorem lib_ParseInt (s : ByteArray) (l : List UInt8) (w : World) (h : RdS s l) (hE : Errs w) :
    Calls Tryz.prog 181 #[.string s, .int .i64 10, .int .i64 64] w fun e w' => (∃ y ev, e = .returned (.tuple #[.int .i64 y, ev]) ∧ PE (okE (Lib.parseIntB 64 l)) y ev) ∧ Below w.heap.size w w' := by
  have hz := h.sz
  obtain ⟨t1, p1, h1⟩ := hE.syn
  obtain ⟨t2, p2, h2⟩ := hE.rng
  cases hp : Lib.parseIntB 64 l with
  | ok v =>
    have c : Calls Tryz.prog 181 #[.string s, .int .i64 10, .int .i64 64] w _ := Any.strconv_ParseInt_10_at64_ok Tryz.laysParseInt s (by omega) v (by rw [h.dl]; exact hp) w
    refine c.mono fun e w' ⟨he, hw⟩ => ⟨⟨v, _, he, .inl ⟨rfl, rfl⟩⟩, ?_⟩
    rcases hw with rfl | ⟨t, rfl⟩
    · exact Below.refl _ _
    · exact Lib.bytesWorld_below _ _ _
  | «syntax» =>
    have c : Calls Tryz.prog 181 #[.string s, .int .i64 10, .int .i64 64] w _ := Any.strconv_ParseInt_10_at64_syntax_var Tryz.laysParseInt s (by omega) (by rw [h.dl]; exact hp) t1 p1 w h1
    exact c.mono fun e w' ⟨N, he, _, _, hb⟩ => ⟨⟨0, _, he, .inr ⟨rfl, _, _, rfl⟩⟩, hb⟩
  | range =>
    have c : Calls Tryz.prog 181 #[.string s, .int .i64 10, .int .i64 64] w _ := Any.strconv_ParseInt_10_at64_range_var Tryz.laysParseInt s (by omega) (by rw [h.dl]; exact hp) t2 p2 w h2
    exact c.mono fun e w' ⟨N, he, _, _, hb⟩ => ⟨⟨_, _, he, .inr ⟨rfl, _, _, rfl⟩⟩, hb⟩

theorem lib_ParseUint (s : ByteArray) (l : List UInt8) (w : World) (h : RdS s l) (hE : Errs w) :
    Calls Tryz.prog 183 #[.string s, .int .i64 10, .int .i64 64] w fun e w' => (∃ (y : Nat) (ev : Value), e = .returned (.tuple #[.int .u64 (y : Int), ev]) ∧ y < 18446744073709551616 ∧ PE (okE (Lib.parseUintB 64 l)) y ev) ∧ Below w.heap.size w w' := by
  have hz := h.sz
  obtain ⟨t1, p1, h1⟩ := hE.syn
  obtain ⟨t2, p2, h2⟩ := hE.rng
  cases hp : Lib.parseUintB 64 l with
  | ok v =>
    have c : Calls Tryz.prog 183 #[.string s, .int .i64 10, .int .i64 64] w _ := Any.strconv_ParseUint_10_at64_ok Tryz.laysParseUint s (by omega) v (by rw [h.dl]; exact hp) w
    have hv : v < 18446744073709551616 := parseUintB_lt hp
    refine c.mono fun e w' ⟨he, hw⟩ => ⟨⟨v, _, he, hv, .inl ⟨rfl, rfl⟩⟩, ?_⟩
    rcases hw with rfl | rfl
    · exact Below.refl _ _
    · exact Lib.bytesWorld_below _ _ _
  | «syntax» =>
    have c : Calls Tryz.prog 183 #[.string s, .int .i64 10, .int .i64 64] w _ := Any.strconv_ParseUint_10_at64_syntax_var Tryz.laysParseUint s (by omega) (by rw [h.dl]; exact hp) t1 p1 w h1
    exact c.mono fun e w' ⟨N, he, _, _, hb⟩ => ⟨⟨0, _, he, by omega, .inr ⟨rfl, _, _, rfl⟩⟩, hb⟩
  | range =>
    have c : Calls Tryz.prog 183 #[.string s, .int .i64 10, .int .i64 64] w _ := Any.strconv_ParseUint_10_at64_range_var Tryz.laysParseUint s (by omega) (by rw [h.dl]; exact hp) t2 p2 w h2
    exact c.mono fun e w' ⟨N, he, _, _, hb⟩ => ⟨⟨18446744073709551615, _, he, by omega, .inr ⟨rfl, _, _, rfl⟩⟩, hb⟩

theorem lib_ParseBool (s : ByteArray) (l : List UInt8) (w : World) (h : RdS s l) (hE : Errs w) :
    Calls Tryz.prog 182 #[.string s] w fun e w' => (∃ (y : Bool) (ev : Value), e = .returned (.tuple #[.bool y, ev]) ∧ PE (Lib.parseBool l) y ev) ∧ Below w.heap.size w w' := by
  have hz := h.sz
  obtain ⟨t1, p1, h1⟩ := hE.syn
  cases hp : Lib.parseBool l with
  | some b =>
    have c : Calls Tryz.prog 182 #[.string s] w _ := Any.strconv_ParseBool Tryz.laysParseBool s b (by rw [h.dl]; exact hp) w
    exact c.mono fun e w' ⟨he, hw⟩ => ⟨⟨b, _, he, .inl ⟨rfl, rfl⟩⟩, by rw [hw]; exact Below.refl _ _⟩
  | none =>
    have c : Calls Tryz.prog 182 #[.string s] w _ := Any.strconv_ParseBool_err_var Tryz.laysParseBoolE s (by omega) (by rw [h.dl]; exact hp) t1 p1 w h1
    exact c.mono fun e w' ⟨N, he, _, _, hb⟩ => ⟨⟨false, _, he, .inr ⟨rfl, _, _, rfl⟩⟩, hb⟩

/-- A text at base 16, whole. -/
def parseH (l : List UInt8) : Lib.NumEnd Nat := if l = [] then .«syntax» else parseX 0 l

theorem parseX_lt : ∀ (l : List UInt8) (acc u : Nat), acc < 18446744073709551616 → parseX acc l = .ok u → u < 18446744073709551616
  | [], acc, u, ha, h => by
    simp only [parseX, Lib.NumEnd.ok.injEq] at h
    omega
  | c :: r, acc, u, ha, h => by
    cases hd : digX c.toNat with
    | none => rw [parseX_none hd] at h; cases h
    | some d =>
      rw [parseX_digit hd] at h
      have hd16 : d < 16 := by
        unfold digX at hd
        split at hd
        · injection hd; omega
        · split at hd
          · injection hd; omega
          · cases hd
      split at h
      · cases h
      · exact parseX_lt r _ u (by omega) h

set_option maxHeartbeats 4000000 in
theorem lib_ParseHex (s : ByteArray) (l : List UInt8) (w : World) (h : RdS s l) (hE : Errs w) :
    Calls Tryz.prog 183 #[.string s, .int .i64 16, .int .i64 64] w fun e w' => (∃ (y : Nat) (ev : Value), e = .returned (.tuple #[.int .u64 (y : Int), ev]) ∧ y < 18446744073709551616 ∧ PE (okE (parseH l)) y ev) ∧ Below w.heap.size w w' := by
  have hz := h.sz
  have hin : Calls Tryz.prog 196 #[.string s, .int .i64 16, .int .i64 64] w fun e w' => e = .returned (endX (parseH l)) ∧ Below w.heap.size w w' := by
    by_cases hl : l = []
    · rw [show parseH l = .«syntax» from by unfold parseH; rw [if_pos hl]]
      have hem : s.toList.isEmpty = true := by rw [h.toList, hl]; rfl
      go_enter Tryz.func196, Tryz.ntmps196
      go_wp2
      go_ret2
      exact ⟨rfl, Below.refl _ _⟩
    · rw [show parseH l = parseX 0 l from by unfold parseH; rw [if_neg hl]]
      exact intl_ParseHex s l h hl w
  cases hp : parseH l with
  | ok v =>
    rw [hp] at hin
    have hv : v < 18446744073709551616 := by
      unfold parseH at hp
      split at hp
      · cases hp
      · exact parseX_lt l 0 v (by omega) hp
    clear hp
    go_enter Tryz.func183, Tryz.ntmps183
    go_wp2_with fail
    refine hin.mono ?_
    rintro e w1 ⟨rfl, hb⟩
    unfold endX
    go_wp2
    go_ret2
    exact ⟨⟨v, _, rfl, hv, .inl ⟨rfl, rfl⟩⟩, hb⟩
  | «syntax» =>
    rw [hp] at hin
    clear hp
    go_enter Tryz.func183, Tryz.ntmps183
    go_wp2_with fail
    refine hin.mono ?_
    rintro e w1 ⟨rfl, hb⟩
    obtain ⟨ev, he1, he2⟩ := (hE.later hb).synC
    have c : Calls Tryz.prog 194 _ w1 _ := Any.strconv_toError_syntax Tryz.laysToError ⟨#[80, 97, 114, 115, 101, 85, 105, 110, 116]⟩ s 16 64 ev w1 (by omega) he1 he2
    unfold endX
    go_wp2_with fail
    refine c.mono ?_
    rintro e w2 ⟨N, rfl, _, _, hb2⟩
    have HB := Lib.hid (hb.trans (hb2.mono hb.size))
    clear hb hb2 c he1
    go_wp2
    go_ret2
    exact ⟨⟨0, _, rfl, by omega, .inr ⟨rfl, _, _, rfl⟩⟩, HB.out⟩
  | range =>
    rw [hp] at hin
    clear hp
    go_enter Tryz.func183, Tryz.ntmps183
    go_wp2_with fail
    refine hin.mono ?_
    rintro e w1 ⟨rfl, hb⟩
    obtain ⟨ev, he1, he2⟩ := (hE.later hb).rngC
    have c : Calls Tryz.prog 194 _ w1 _ := Any.strconv_toError_range Tryz.laysToError ⟨#[80, 97, 114, 115, 101, 85, 105, 110, 116]⟩ s 16 64 ev w1 (by omega) he1 he2
    unfold endX
    go_wp2_with fail
    refine c.mono ?_
    rintro e w2 ⟨N, rfl, _, _, hb2⟩
    have HB := Lib.hid (hb.trans (hb2.mono hb.size))
    clear hb hb2 c he1
    go_wp2
    go_ret2
    exact ⟨⟨18446744073709551615, _, rfl, by omega, .inr ⟨rfl, _, _, rfl⟩⟩, HB.out⟩

end Go.Proofs.YtfpidkcdgebnpaaGreatDoor


/-
  Package cell: a number read off its text.
-/
namespace Go.Proofs.YtfpidkcdgebnpaaGreatDoor
open Go.RowKit Go.Shelf

/-- What the library reads of a text, as a number of a kind. -/
def parN (kind : Int) (l : List UInt8) : Option Nat :=
  if kind = 0 then (okE (Lib.parseIntB 64 l)).map (fun v => (v % 18446744073709551616).toNat)
  else if kind = 2 then (Lib.parseBool l).map (fun b => if b then 1 else 0)
  else if kind = 5 then okE (parseH l) else okE (Lib.parseUintB 64 l)

structure Lib4 (w : World) : Prop where
  l3 : Lib3 w
  errs : Errs w
theorem Lib4.later {w w' : World} (h : Lib4 w) (hb : Below w.heap.size w w') : Lib4 w' := ⟨h.l3.later hb, h.errs.later hb⟩

set_option maxHeartbeats 4000000 in
theorem cell_parseNum (kind : Int) (hk : kind = 0 ∨ kind = 1 ∨ kind = 2 ∨ kind = 5) (s : ByteArray) (l : List UInt8) (w : World) (h : RdS s l) (hE : Errs w) :
    Calls Tryz.prog 161 #[.int .i64 kind, .string s] w fun e w' => (∃ (y : Nat) (ev : Value), e = .returned (.tuple #[.int .u64 (y : Int), ev]) ∧ y < 18446744073709551616 ∧ (kind = 2 → y ≤ 1) ∧ PE (parN kind l) y ev) ∧ Below w.heap.size w w' := by
  rcases hk with rfl | rfl | rfl | rfl
  · have e0 : parN 0 l = (okE (Lib.parseIntB 64 l)).map (fun v => (v % 18446744073709551616).toNat) := by unfold parN; rw [if_pos rfl]
    have HE := Lib.hid e0
    clear e0
    go_enter Tryz.func161, Tryz.ntmps161
    go_wp2_with fail
    refine (lib_ParseInt s l w h hE).mono ?_
    rintro e w1 ⟨⟨y, ev, rfl, hp⟩, hb⟩
    obtain ⟨n, hn⟩ : ∃ n : Nat, y % 18446744073709551616 = (n : Int) := ⟨(y % 18446744073709551616).toNat, by omega⟩
    have hw : IntKind.u64.wrap y = (n : Int) := by
      have : IntKind.u64.wrap y = y % 18446744073709551616 := by simp [IntKind.wrap, IntKind.signed, IntKind.bits]
      omega
    have HN := Lib.hid hn
    have HP := Lib.hid hp
    clear hn hp
    go_wp2
    go_ret2
    refine ⟨⟨n, ev, rfl, by have := HN.out; omega, fun h => absurd h (by decide), ?_⟩, hb⟩
    rw [HE.out]
    rcases HP.out with ⟨h1, h2⟩ | ⟨h1, h2⟩
    · exact .inl ⟨by rw [h1]; simp only [Option.map_some, HN.out, Int.toNat_natCast], h2⟩
    · exact .inr ⟨by rw [h1]; rfl, h2⟩
  · have e0 : parN 1 l = okE (Lib.parseUintB 64 l) := by unfold parN; rw [if_neg (by decide), if_neg (by decide), if_neg (by decide)]
    have HE := Lib.hid e0
    clear e0
    go_enter Tryz.func161, Tryz.ntmps161
    go_wp2_with fail
    refine (lib_ParseUint s l w h hE).mono ?_
    rintro e w1 ⟨⟨y, ev, rfl, hy, hp⟩, hb⟩
    have HP := Lib.hid hp
    have HY := Lib.hid hy
    clear hp hy
    go_wp2
    go_ret2
    exact ⟨⟨y, ev, rfl, HY.out, fun h => absurd h (by decide), by rw [HE.out]; exact HP.out⟩, hb⟩
  · have e0 : parN 2 l = (Lib.parseBool l).map (fun b => if b then 1 else 0) := by unfold parN; rw [if_neg (by decide), if_pos rfl]
    have HE := Lib.hid e0
    clear e0
    go_enter Tryz.func161, Tryz.ntmps161
    go_wp2_with fail
    refine (lib_ParseBool s l w h hE).mono ?_
    rintro e w1 ⟨⟨y, ev, rfl, hp⟩, hb⟩
    have HP := Lib.hid hp
    clear hp
    cases y with
    | true =>
      go_wp2
      go_ret2
      refine ⟨⟨1, ev, rfl, by omega, fun _ => by omega, ?_⟩, hb⟩
      rw [HE.out]
      rcases HP.out with ⟨h1, h2⟩ | ⟨h1, h2⟩
      · exact .inl ⟨by rw [h1]; rfl, h2⟩
      · exact .inr ⟨by rw [h1]; rfl, h2⟩
    | false =>
      go_wp2
      go_ret2
      refine ⟨⟨0, ev, rfl, by omega, fun _ => by omega, ?_⟩, hb⟩
      rw [HE.out]
      rcases HP.out with ⟨h1, h2⟩ | ⟨h1, h2⟩
      · exact .inl ⟨by rw [h1]; rfl, h2⟩
      · exact .inr ⟨by rw [h1]; rfl, h2⟩
  · have e0 : parN 5 l = okE (parseH l) := by unfold parN; rw [if_neg (by decide), if_neg (by decide), if_pos rfl]
    have HE := Lib.hid e0
    clear e0
    go_enter Tryz.func161, Tryz.ntmps161
    go_wp2_with fail
    refine (lib_ParseHex s l w h hE).mono ?_
    rintro e w1 ⟨⟨y, ev, rfl, hy, hp⟩, hb⟩
    have HP := Lib.hid hp
    have HY := Lib.hid hy
    clear hp hy
    go_wp2
    go_ret2
    exact ⟨⟨y, ev, rfl, HY.out, fun h => absurd h (by decide), by rw [HE.out]; exact HP.out⟩, hb⟩

/-- The number that a text of a kind is, if it is just that number's own. -/
def readN (kind : Int) (l : List UInt8) : Option Nat := (parN kind l).bind fun x => if numL kind x = l then some x else none
def numV (o : Option Nat) : Value := match o with
  | some x => .tuple #[.agg #[.int .u64 (x : Int), .string ⟨#[]⟩], .int .i64 0]
  | none => .tuple #[.agg #[.int .u64 0, .string ⟨#[]⟩], .int .i64 6]

set_option maxHeartbeats 4000000 in
theorem cell_readNum (kind : Int) (hk : kind = 0 ∨ kind = 1 ∨ kind = 2 ∨ kind = 5) (s : ByteArray) (l : List UInt8) (w : World) (h : RdS s l) (hL : Lib4 w) :
    Calls Tryz.prog 125 #[.int .i64 kind, .string s] w fun e w' => e = .returned (numV (readN kind l)) ∧ Below w.heap.size w w' := by
  have hb0 : Below w.heap.size w (w.alloc (.cells #[.int .u64 0, .string ⟨#[]⟩] 71)) := (Below.refl _ _).alloc (Nat.le_refl _) _
  have hR : readN kind l = (parN kind l).bind fun x => if numL kind x = l then some x else none := rfl
  have HR := Lib.hid hR
  have hL0 := hL.later hb0
  clear hR hL
  obtain ⟨N0, N1, N2⟩ := new1 w (.cells #[.int .u64 0, .string ⟨#[]⟩] 71)
  obtain ⟨w0, hw0⟩ : ∃ w0, w0 = w.alloc (.cells #[.int .u64 0, .string ⟨#[]⟩] 71) := ⟨_, rfl⟩
  rw [← hw0] at N0 N1 N2 hL0 hb0
  go_enter Tryz.func125, Tryz.ntmps125
  go_wp2_with fail
  rw [← hw0]
  clear hw0
  refine (cell_parseNum kind hk s l w0 h hL0.errs).mono ?_
  rintro e w1 ⟨⟨y, ev, rfl, hy, _, hp⟩, hb⟩
  have q := keepB N1 hb
  have HB := Lib.hid (N2.trans (hb.mono N2.size))
  have hL1 := hL0.later hb
  clear hb N0 N1 N2 hb0 hL0
  rcases hp with ⟨hp, rfl⟩ | ⟨hp, tp, p, rfl⟩
  · have HP := Lib.hid hp
    clear hp
    go_wp2_with fail
    refine (cell_numText kind hk y hy w1 hL1.l3).mono ?_
    rintro e w2 ⟨⟨t, rfl, ht⟩, hb⟩
    replace q := keepB q hb
    replace HB := Lib.hid (HB.out.trans (hb.mono HB.out.size))
    have c0 := new_cellC (i := 0) q rfl
    have c1 := new_cellC (i := 1) q rfl
    have f0 : w2.frozen? ⟨w.heap.size, 0, none⟩ = false := frozen_of_row _ _ _ _ _ q
    have f1 : w2.frozen? ⟨w.heap.size, 1, none⟩ = false := frozen_of_row _ _ _ _ _ q
    clear hb hL1
    by_cases he : numL kind y = l
    · have hne : (t.toList == s.toList) = true := by rw [ht.toList, h.toList, he]; simp
      have HE := Lib.hid he
      clear he ht
      go_wp2
      obtain ⟨k0, k1, k2⟩ := two_cells q (.int .u64 (y : Int)) (.string ⟨#[]⟩)
      refine bodyPost_ret (by simp [results, Tryz.results125, go_sem, k0, k1, k2]; try rfl) rfl ?_
      refine ⟨?_, (HB.out.setCell (Nat.le_refl _) _).setCell (Nat.le_refl _) _⟩
      rw [HR.out, HP.out]
      simp [numV, HE.out]
    · have hne : (t.toList == s.toList) = false := by rw [ht.toList, h.toList]; simp [he]
      have HE := Lib.hid he
      clear he ht
      go_wp2
      obtain ⟨k0, k1, k2⟩ := two_cells q (.int .u64 0) (.string ⟨#[]⟩)
      refine bodyPost_ret (by simp [results, Tryz.results125, go_sem, k0, k1, k2]; try rfl) rfl ?_
      refine ⟨?_, (HB.out.setCell (Nat.le_refl _) _).setCell (Nat.le_refl _) _⟩
      rw [HR.out, HP.out]
      simp [numV, HE.out]
  · have HP := Lib.hid hp
    have c0 := new_cellC (i := 0) q rfl
    have c1 := new_cellC (i := 1) q rfl
    have f0 : w1.frozen? ⟨w.heap.size, 0, none⟩ = false := frozen_of_row _ _ _ _ _ q
    have f1 : w1.frozen? ⟨w.heap.size, 1, none⟩ = false := frozen_of_row _ _ _ _ _ q
    clear hp hL1
    go_wp2
    obtain ⟨k0, k1, k2⟩ := two_cells q (.int .u64 0) (.string ⟨#[]⟩)
    refine bodyPost_ret (by simp [results, Tryz.results125, go_sem, k0, k1, k2]; try rfl) rfl ?_
    refine ⟨?_, (HB.out.setCell (Nat.le_refl _) _).setCell (Nat.le_refl _) _⟩
    rw [HR.out, HP.out]
    simp [numV]

end Go.Proofs.YtfpidkcdgebnpaaGreatDoor


/-
  Package cell: bytes read off their digits.
-/
namespace Go.Proofs.YtfpidkcdgebnpaaGreatDoor
open Go.RowKit Go.Shelf

/-- Digits alone. -/
def allD (l : List UInt8) : Prop := ∀ c ∈ l, ∃ r, r < 16 ∧ c = dig r
/-- The bytes that digits are, two and two. -/
def hexR : List Nat → List UInt8
  | a :: b :: r => UInt8.ofNat (16 * a + b) :: hexR r
  | _ => []
theorem allD_nums {l : List UInt8} (h : allD l) : ∃ rs : List Nat, l = rs.map dig ∧ ∀ r ∈ rs, r < 16 := by
  induction l with
  | nil => exact ⟨[], rfl, by simp⟩
  | cons c t ih =>
    obtain ⟨rs, h1, h2⟩ := ih (fun x hx => h x (by simp [hx]))
    obtain ⟨r, hr, hc⟩ := h c (by simp)
    exact ⟨r :: rs, by rw [hc, h1]; rfl, by intro x hx; rcases List.mem_cons.1 hx with rfl | hx; exact hr; exact h2 x hx⟩

theorem digs_mem (c : UInt8) : digs.contains c = true ↔ ∃ r, r < 16 ∧ c = dig r := by
  constructor
  · intro h
    have h1 : c ∈ digs := by simpa using h
    have h2 : ∀ c ∈ digs, ∃ r, r < 16 ∧ c = dig r := by decide
    exact h2 c h1
  · rintro ⟨r, hr, rfl⟩
    have : ∀ r : Fin 16, digs.contains (dig r.val) = true := by decide
    exact this ⟨r, hr⟩
theorem trim_nil (l : List UInt8) : Lib.trimLeftS l digs = [] ↔ allD l := by
  unfold Lib.trimLeftS allD
  induction l with
  | nil => simp
  | cons a r ih =>
    rw [List.dropWhile_cons]
    by_cases ha : digs.contains a = true
    · rw [if_pos ha, ih]
      constructor
      · intro h c hc
        rcases List.mem_cons.1 hc with rfl | hc
        · exact (digs_mem _).1 ha
        · exact h c hc
      · intro h c hc; exact h c (List.mem_cons_of_mem _ hc)
    · rw [if_neg ha]
      constructor
      · intro h; cases h
      · intro h; exact absurd ((digs_mem a).2 (h a (by simp))) ha

theorem lib_Trim (s : ByteArray) (l : List UInt8) (w : World) (h : RdS s l) :
    Calls Tryz.prog 113 #[.string s, .string ({ data := #[48, 49, 50, 51, 52, 53, 54, 55, 56, 57, 97, 98, 99, 100, 101, 102] } : ByteArray)] w fun e w' => e = .returned (.string ⟨(Lib.trimLeftS l digs).toArray⟩) ∧ Below w.heap.size w w' := by
  have c : Calls Tryz.prog 113 #[.string s, .string ({ data := #[48, 49, 50, 51, 52, 53, 54, 55, 56, 57, 97, 98, 99, 100, 101, 102] } : ByteArray)] w _ := Any.strings_TrimLeft_laid Tryz.laysTrim (by kernel_rfl) s _ w (by decide) (ascii_of_all (by decide))
  rw [h.dl] at c
  exact c

theorem cell_value (r : Nat) (hr : r < 16) (w : World) : Calls Tryz.prog 160 #[.int .u8 ((dig r).toNat : Int)] w fun e w' => e = .returned (.int .u8 (r : Int)) ∧ w' = w := by
  have c : Calls Tryz.prog 180 #[.string ({ data := #[48, 49, 50, 51, 52, 53, 54, 55, 56, 57, 97, 98, 99, 100, 101, 102] } : ByteArray), .int .u8 ((dig r).toNat : Int)] w _ := Any.strings_IndexByte Tryz.laysIndexByte _ _ w
  have e : Lib.indexByte ({ data := #[48, 49, 50, 51, 52, 53, 54, 55, 56, 57, 97, 98, 99, 100, 101, 102] } : ByteArray).data.toList (((dig r).toNat : Int)).toNat.toUInt8 = (r : Int) := by
    have : ∀ r : Fin 16, Lib.indexByte ({ data := #[48, 49, 50, 51, 52, 53, 54, 55, 56, 57, 97, 98, 99, 100, 101, 102] } : ByteArray).data.toList (((dig r.val).toNat : Int)).toNat.toUInt8 = (r.val : Int) := by decide
    exact this ⟨r, hr⟩
  rw [e] at c
  clear e
  go_enter Tryz.func160, Tryz.ntmps160
  go_wp2_with fail
  refine c.mono ?_
  rintro e w1 ⟨rfl, rfl⟩
  clear c
  go_wp2
  go_ret
  exact ⟨rfl, rfl⟩

theorem hexR_len : ∀ (k : Nat) (rs : List Nat), rs.length = 2 * k → (hexR rs).length = k
  | 0, [], _ => rfl
  | k + 1, a :: b :: r, h => by rw [hexR, List.length_cons, hexR_len k r (by simp at h; omega)]
theorem hexR_app : ∀ (k : Nat) (rs : List Nat) (a b : Nat), rs.length = 2 * k → hexR (rs ++ [a, b]) = hexR rs ++ [UInt8.ofNat (16 * a + b)]
  | 0, [], a, b, _ => rfl
  | k + 1, x :: y :: r, a, b, h => by
    rw [List.cons_append, List.cons_append, hexR, hexR, hexR_app k r a b (by simp at h; omega), List.cons_append]

/-- What is read of bytes' digits. -/
noncomputable def bytesV (kind : Int) (l : List UInt8) : Option (List UInt8) × Nat :=
  open Classical in
  if l = [45] then (some [], 0)
  else if l = [] ∨ l.length % 2 = 1 ∨ ¬ allD l then (none, 6)
  else if 512 < l.length then (none, 7)
  else if isOfC kind 0 (hexR (l.map fun c => (digV c.toNat).toNat)) = true then (some (hexR (l.map fun c => (digV c.toNat).toNat)), 0) else (none, 11)
/-- The answer: the cell of these bytes, and no error; or none, and which. -/
def ByV (o : Option (List UInt8) × Nat) (e : Ending) : Prop := match o with
  | (some b, _) => ∃ t : ByteArray, RdS t b ∧ e = .returned (.tuple #[.agg #[.int .u64 0, .string t], .int .i64 0])
  | (none, k) => e = .returned (.tuple #[.agg #[.int .u64 0, .string ⟨#[]⟩], .int .i64 (k : Int)])

theorem nums_digV {rs : List Nat} (h : ∀ r ∈ rs, r < 16) : (rs.map dig).map (fun c => (digV c.toNat).toNat) = rs := by
  rw [List.map_map]
  conv => rhs; rw [← List.map_id rs]
  refine List.map_congr_left fun r hr => ?_
  simp only [Function.comp]
  rw [digV_dig (h r hr)]
  simp

theorem getD_lt {rs : List Nat} (h : ∀ r ∈ rs, r < 16) {i : Nat} (hi : i < rs.length) : rs.getD i 0 < 16 := by
  have : rs.getD i 0 = rs[i] := by simp [List.getD, hi]
  rw [this]; exact h _ (List.getElem_mem _)
theorem at8_map (rs : List Nat) (i : Nat) (hi : i < rs.length) : at8 (rs.map dig) i = ((dig (rs.getD i 0)).toNat : Int) := by
  unfold at8
  simp [List.getD, hi]
theorem next_row (rs : List Nat) (n k : Nat) (hl : rs.length = 2 * n) (hk : k < n) : (hexR (rs.take (2 * k)) ++ List.replicate (n - k) (0 : UInt8)).set k (UInt8.ofNat (16 * rs.getD (2 * k) 0 + rs.getD (2 * k + 1) 0)) = hexR (rs.take (2 * (k + 1))) ++ List.replicate (n - (k + 1)) 0 := by
  have h1 := hexR_len k (rs.take (2 * k)) (by rw [List.length_take]; omega)
  have e : rs.take (2 * (k + 1)) = rs.take (2 * k) ++ [rs.getD (2 * k) 0, rs.getD (2 * k + 1) 0] := by
    have i1 : 2 * k < rs.length := by omega
    have i2 : 2 * k + 1 < rs.length := by omega
    have e1 : rs.take (2 * k + 1 + 1) = rs.take (2 * k + 1) ++ rs[2 * k + 1]?.toList := List.take_add_one
    have e2 : rs.take (2 * k + 1) = rs.take (2 * k) ++ rs[2 * k]?.toList := List.take_add_one
    rw [show 2 * (k + 1) = 2 * k + 1 + 1 from by omega, e1, e2, List.getElem?_eq_getElem i1, List.getElem?_eq_getElem i2, List.append_assoc]
    simp [List.getD, i1, i2]
  rw [e, hexR_app k _ _ _ (by rw [List.length_take]; omega), List.set_append, if_neg (by omega), h1, Nat.sub_self]
  obtain ⟨j, hj⟩ : ∃ j, n - k = j + 1 := ⟨n - k - 1, by omega⟩
  rw [hj, show n - (k + 1) = j from by omega, List.replicate_succ, List.set_cons_zero, List.append_assoc]
  rfl
set_option maxHeartbeats 16000000 in
theorem cell_readBytes (kind : Int) (hk : kind = 3 ∨ kind = 4) (s : ByteArray) (l : List UInt8) (w : World) (h : RdS s l) (hT : Tabs w) :
    Calls Tryz.prog 124 #[.int .i64 kind, .string s] w fun e w' => ByV (bytesV kind l) e ∧ Below w.heap.size w w' := by
  have hlen := h.len
  have hsm := h.small
  have HBL := Lib.hid (tabs_lt hT)
  have hb0 : Below w.heap.size w (w.alloc (.cells #[.int .u64 0, .string ⟨#[]⟩] 71)) := (Below.refl _ _).alloc (Nat.le_refl _) _
  by_cases h45 : l = [45]
  · have hV : bytesV kind l = (some [], 0) := by unfold bytesV; rw [if_pos h45]
    have hd : (s.toList == [45]) = true := by rw [h.toList, h45]; rfl
    have HV := Lib.hid hV
    clear h45 hV
    go_enter Tryz.func124, Tryz.ntmps124
    go_wp2
    refine bodyPost_ret (by simp [results, Tryz.results124, go_sem]; try rfl) rfl ?_
    refine ⟨?_, hb0⟩
    rw [HV.out]
    exact ⟨⟨#[]⟩, empty_rd, rfl⟩
  · have hd : (s.toList == [45]) = false := by rw [h.toList]; simp [h45]
    by_cases hl : l = []
    · have hem : s.toList.isEmpty = true := by rw [h.toList, hl]; rfl
      have HV := Lib.hid (show bytesV kind l = (none, 6) from by unfold bytesV; rw [if_neg h45, if_pos (.inl hl)])
      clear hl h45
      go_enter Tryz.func124, Tryz.ntmps124
      go_wp2
      refine bodyPost_ret (by simp [results, Tryz.results124, go_sem]; try rfl) rfl ?_
      refine ⟨?_, hb0⟩
      rw [HV.out]
      rfl
    · have hem : s.toList.isEmpty = false := by rw [h.toList]; cases l <;> simp_all
      by_cases hodd : l.length % 2 = 1
      · have hro : (l.length : Int) % 2 = 1 := by omega
        have HV := Lib.hid (show bytesV kind l = (none, 6) from by unfold bytesV; rw [if_neg h45, if_pos (.inr (.inl hodd))])
        clear hl h45 hodd
        go_enter Tryz.func124, Tryz.ntmps124
        go_wp2
        refine bodyPost_ret (by simp [results, Tryz.results124, go_sem]; try rfl) rfl ?_
        refine ⟨?_, hb0⟩
        rw [HV.out]
        rfl
      · have hro : (l.length : Int) % 2 = 0 := by omega
        obtain ⟨n, hn⟩ : ∃ n, l.length = 2 * n := ⟨l.length / 2, by omega⟩
        obtain ⟨T, hTT⟩ : ∃ T : ByteArray, T = ⟨(Lib.trimLeftS l digs).toArray⟩ := ⟨_, rfl⟩
        have hTl : T.toList = Lib.trimLeftS l digs := by rw [hTT, Lib.toList_data]
        have HT := Lib.hid hTT
        obtain ⟨N0, q, N2⟩ := new1 w (.cells #[.int .u64 0, .string ⟨#[]⟩] 71)
        obtain ⟨w0, hw0⟩ : ∃ w0, w0 = w.alloc (.cells #[.int .u64 0, .string ⟨#[]⟩] 71) := ⟨_, rfl⟩
        rw [← hw0] at N0 q N2
        have HN0 := Lib.hid N0
        clear hTT hb0 N0
        by_cases had : allD l
        · have htn : T.toList.isEmpty = true := by rw [hTl, (trim_nil l).2 had]; rfl
          by_cases hbig : 512 < l.length
          · have hdb : decide ((l.length : Int) > 512) = true := decide_eq_true (by omega)
            have HV := Lib.hid (show bytesV kind l = (none, 7) from by unfold bytesV; rw [if_neg h45, if_neg (by simp [hl, hodd, had]), if_pos hbig])
            clear hl h45 hodd had hbig hTl hn
            go_enter Tryz.func124, Tryz.ntmps124
            go_wp2_with fail
            rw [← hw0]
            clear hw0
            refine (lib_Trim s l _ h).mono ?_
            rintro e w1 ⟨rfl, hb⟩
            rw [← HT.out]
            replace q := keepB q hb
            have HB := Lib.hid (N2.trans (hb.mono N2.size))
            have hT1 := (hT.later N2).later hb
            clear hb N2

            have c0 := new_cellC (i := 0) q rfl
            have c1 := new_cellC (i := 1) q rfl
            have f0 : w1.frozen? ⟨w.heap.size, 0, none⟩ = false := frozen_of_row _ _ _ _ _ q
            have f1 : w1.frozen? ⟨w.heap.size, 1, none⟩ = false := frozen_of_row _ _ _ _ _ q
            obtain ⟨k0, k1, k2⟩ := two_cells q (.int .u64 0) (.string ⟨#[]⟩)
            go_wp2
            refine bodyPost_ret (by simp [results, Tryz.results124, go_sem, k0, k1, k2]; try rfl) rfl ?_
            refine ⟨?_, (HB.out.setCell (Nat.le_refl _) _).setCell (Nat.le_refl _) _⟩
            rw [HV.out]
            rfl
          · have hdb : decide ((l.length : Int) > 512) = false := decide_eq_false (by omega)
            obtain ⟨rs, hlr, hrs⟩ := allD_nums had
            have HV := Lib.hid (show bytesV kind l = (if isOfC kind 0 (hexR rs) = true then (some (hexR rs), 0) else (none, 11)) from by
              unfold bytesV; rw [if_neg h45, if_neg (by simp [hl, hodd, had]), if_neg hbig]
              rw [hlr, nums_digV hrs])
            have hdv : (l.length : Int) / 2 = (n : Int) := by omega
            have hmk := make_bytes (n : Int) (by omega) (by omega)
            rw [show ((n : Int)).toNat = n from by omega] at hmk
            have HRL := Lib.hid (show rs.length = 2 * n from by rw [← hn, hlr]; simp)
            have HLR := Lib.hid hlr
            have HRS := Lib.hid hrs
            have HN := Lib.hid (show n ≤ 256 from by omega)
            clear hl h45 hodd had hbig hTl hn hlr hrs
            go_enter Tryz.func124, Tryz.ntmps124
            go_wp2_with fail
            rw [← hw0]
            clear hw0
            refine (lib_Trim s l _ h).mono ?_
            rintro e w1 ⟨rfl, hb⟩
            rw [← HT.out]
            replace q := keepB q hb
            have HB := Lib.hid (N2.trans (hb.mono N2.size))
            have hT1 := (hT.later N2).later hb
            clear hb N2

            have HQ := Lib.hid (show w.heap.size + 1 ≤ w1.heap.size from by
              rcases Nat.lt_or_ge w.heap.size w1.heap.size with h' | h'
              · exact h'
              · rw [Array.getElem?_eq_none h'] at q; cases q)
            go_wp2_with fail
            obtain ⟨v, hv⟩ : ∃ v, v = Value.slice (some ⟨w1.heap.size, 0, none⟩) n n := ⟨_, rfl⟩
            have hO : Own (w1.alloc (.cells (cellsB (List.replicate n 0)).toArray 5)) (w.heap.size + 1) v (List.replicate n 0) := by
              rw [hv]
              exact own_of_block (cur := cellsB (List.replicate n 0)) (by have := HB.out.size; have := HQ.out; omega) (heap_alloc_new _ _) (by simp) (Nat.le_refl _) (by unfold maxLen; have := HN.out; omega) (by simp [cellsB]) (by simp [cellsB])
            have hBn : Below w.heap.size w (w1.alloc (.cells (cellsB (List.replicate n 0)).toArray 5)) := HB.out.alloc HB.out.size _
            have hq2 := keepB q ((Below.refl _ w1).alloc (Nat.le_refl _) (.cells (cellsB (List.replicate n 0)).toArray 5))
            have hT2 := hT1.later ((Below.refl _ w1).alloc (Nat.le_refl _) (.cells (cellsB (List.replicate n 0)).toArray 5))
            have hvl : ∀ u, (Builtin.len_ #[135] 3 #[v]).run Tryz.prog u = .ok (.int .i64 (n : Int)) u := by
              have := len_own hO (by simp; have := HN.out; omega)
              simpa using this
            try rw [← hv]
            clear hv
            go_wp2
            go_loopw [36] (fun i wr => ∃ (k : Nat), k ≤ n ∧ i = .int .i64 k ∧ Hid (Own wr (w.heap.size + 1) v (hexR (rs.take (2 * k)) ++ List.replicate (n - k) 0)) ∧ Hid (wr.heap[w.heap.size]? = some (.cells #[.int .u64 0, .string ⟨#[]⟩] 71 (0, 0))) ∧ Hid (Tabs wr) ∧ Hid (Below w.heap.size w wr)) (fun i _ => n - (intOf i).toNat)
            case atStart => exact ⟨0, by omega, rfl, Lib.hid (by simpa [hexR] using hO), Lib.hid hq2, Lib.hid hT2, Lib.hid hBn⟩
            case round =>
              obtain ⟨k, hkn, rfl, HO, HQQ, HTT, HBB⟩ := hrel
              clear hO hBn hq2 hT2 hmk
              by_cases hlt : k < n
              · obtain ⟨a, ha⟩ : ∃ a, a = rs.getD (2 * k) 0 := ⟨_, rfl⟩
                obtain ⟨b, hb⟩ : ∃ b, b = rs.getD (2 * k + 1) 0 := ⟨_, rfl⟩
                have hrl := HRL.out
                have ha16 : a < 16 := by rw [ha]; exact getD_lt HRS.out (by omega)
                have hb16 : b < 16 := by rw [hb]; exact getD_lt HRS.out (by omega)
                have hx1 := h.idx (2 * k) (by rw [HLR.out]; simp; omega)
                have hx2 := h.idx (2 * k + 1) (by rw [HLR.out]; simp; omega)
                rw [show at8 l (2 * k) = ((dig a).toNat : Int) from by rw [ha, HLR.out]; exact at8_map rs (2 * k) (by omega), show ((2 * k : Nat) : Int) = 2 * (k : Int) from by omega] at hx1
                rw [show at8 l (2 * k + 1) = ((dig b).toNat : Int) from by rw [hb, HLR.out]; exact at8_map rs (2 * k + 1) (by omega), show ((2 * k + 1 : Nat) : Int) = 2 * (k : Int) + 1 from by omega] at hx2
                have hcl : (hexR (rs.take (2 * k)) ++ List.replicate (n - k) (0 : UInt8)).length = n := by
                  rw [List.length_append, hexR_len k _ (by rw [List.length_take]; omega)]; simp; omega
                have hrd := HO.out.rd (by rw [hcl]; have := HN.out; omega)
                have hix := hrd.idx k (by rw [hcl]; exact hlt)
                have hold := hrd.cells k (by rw [hcl]; exact hlt)
                obtain ⟨hset, hfr, hbk⟩ := HO.out.set (i := k) (by rw [hcl]; exact hlt) (UInt8.ofNat (16 * a + b))
                have hval : cellB (UInt8.ofNat (16 * a + b)) = .int .u8 (16 * (a : Int) + (b : Int)) := by
                  unfold cellB; congr 1; simp; omega
                rw [hval] at hset
                have hnext : (hexR (rs.take (2 * k)) ++ List.replicate (n - k) (0 : UInt8)).set k (UInt8.ofNat (16 * a + b)) = hexR (rs.take (2 * (k + 1))) ++ List.replicate (n - (k + 1)) 0 := by
                  rw [ha, hb]; exact next_row rs n k hrl hlt
                rw [hnext] at hset
                have hq3 : (wr.setCell (adr v k) (.int .u8 (16 * (a : Int) + (b : Int)))).heap[w.heap.size]? = some (.cells #[.int .u64 0, .string ⟨#[]⟩] 71 (0, 0)) :=
                  (((Below.refl (w.heap.size + 1) wr).setCell hbk _).block _ (by omega)).trans HQQ.out
                have hb3 : Below w.heap.size w (wr.setCell (adr v k) (.int .u8 (16 * (a : Int) + (b : Int)))) := HBB.out.setCell (by omega) _
                have hT3 : Tabs (wr.setCell (adr v k) (.int .u8 (16 * (a : Int) + (b : Int)))) := tabs_set HTT.out (by have := HBL.out; omega) _
                have HS := Lib.hid (And.intro hset (And.intro hq3 (And.intro hT3 hb3)))
                clear hset hnext hval hcl hrd hrl hq3 hb3 hT3 ha hb
                go_wp2_with fail
                refine OrdR.wp_region_ord way_all [(0, false), (1, false), (2, false), (3, false), (4, false), (5, false), (8, false), (9, false), (10, false), (11, false), (12, false), (6, true), (7, false), (13, true), (14, false), (15, false), (16, true)] (by kernel_rfl) rfl (by kernel_rfl) (by kernel_rfl) (fun _ _ _ d _ h => by cases d <;> exact h) ?_
                refine OrdR.ord_still rfl rfl (by kernel_rfl) (fun K hK => ?_)
                go_big_quiet_op
                refine hK _ ?_; clear hK K
                refine OrdR.ord_still rfl rfl (by kernel_rfl) (fun K hK => ?_)
                go_big_quiet_op
                refine hK _ ?_; clear hK K
                refine OrdR.ord_still rfl rfl (by kernel_rfl) (fun K hK => ?_)
                go_big_quiet_op
                refine hK _ ?_; clear hK K
                refine OrdR.ord_still rfl rfl (by kernel_rfl) (fun K hK => ?_)
                go_big_quiet_op
                refine hK _ ?_; clear hK K
                refine OrdR.ord_still rfl rfl (by kernel_rfl) (fun K hK => ?_)
                go_big_quiet_op
                refine hK _ ?_; clear hK K
                refine OrdR.ord_still rfl rfl (by kernel_rfl) (fun K hK => ?_)
                go_big_quiet_op
                refine hK _ ?_; clear hK K
                refine OrdR.ord_still rfl rfl (by kernel_rfl) (fun K hK => ?_)
                go_big_quiet_op
                refine hK _ ?_; clear hK K
                refine OrdR.ord_still rfl rfl (by kernel_rfl) (fun K hK => ?_)
                go_big_quiet_op
                refine hK _ ?_; clear hK K
                refine OrdR.ord_still rfl rfl (by kernel_rfl) (fun K hK => ?_)
                go_big_quiet_op
                refine hK _ ?_; clear hK K
                refine OrdR.ord_still rfl rfl (by kernel_rfl) (fun K hK => ?_)
                go_big_quiet_op
                refine hK _ ?_; clear hK K
                refine OrdR.ord_still rfl rfl (by kernel_rfl) (fun K hK => ?_)
                go_big_quiet_op
                refine hK _ ?_; clear hK K
                refine OrdR.ord_loud rfl (by kernel_rfl) (fun K hK => ?_)
                go_big_op
                refine (cell_value a ha16 _).mono ?_
                rintro e w9 ⟨rfl, rfl⟩
                refine hK _ _ trivial ?_; clear hK K
                go_simp
                refine OrdR.ord_still rfl rfl (by kernel_rfl) (fun K hK => ?_)
                go_big_quiet_op
                refine hK _ ?_; clear hK K
                refine OrdR.ord_loud rfl (by kernel_rfl) (fun K hK => ?_)
                go_big_op
                refine (cell_value b hb16 _).mono ?_
                rintro e w9 ⟨rfl, rfl⟩
                refine hK _ _ trivial ?_; clear hK K
                go_simp
                refine OrdR.ord_still rfl rfl (by kernel_rfl) (fun K hK => ?_)
                go_big_quiet_op
                refine hK _ ?_; clear hK K
                refine OrdR.ord_still rfl rfl (by kernel_rfl) (fun K hK => ?_)
                go_big_quiet_op
                refine hK _ ?_; clear hK K
                refine OrdR.ord_loud rfl (by kernel_rfl) (fun K hK => ?_)
                go_big_op
                refine hK _ _ trivial ?_; clear hK K
                refine OrdR.ord_nil ?_
                go_wp2
                go_roundw
                case rel =>
                  obtain ⟨h1, h2, h3, h4⟩ := HS.out
                  exact ⟨k + 1, by omega, by go_num, Lib.hid h1.drew, Lib.hid h2, Lib.hid h3, Lib.hid h4.drew⟩
                case measure => simp [intOf]; omega
              · obtain rfl : k = n := by omega
                have hrl := HRL.out
                have hO2 := HO.out
                rw [show 2 * k = rs.length from hrl.symm, List.take_length, Nat.sub_self, List.replicate_zero, List.append_nil] at hO2
                have hrd := hO2.rd (by rw [hexR_len k rs hrl]; have := HN.out; omega)
                have hst := hrd.str
                obtain ⟨t, ht⟩ : ∃ t : ByteArray, t = ⟨(hexR rs).toArray⟩ := ⟨_, rfl⟩
                have hRt : RdS t (hexR rs) := ⟨ht, by rw [hexR_len k rs hrl]; have := HN.out; omega⟩
                rw [← ht] at hst
                obtain ⟨M0, M1, M2⟩ := new1 wr (.cells #[.int .u64 0, .string t] 71)
                have hT4 := HTT.out.later M2
                have hq4 := keepB HQQ.out M2
                have hb4 := HBB.out.trans (M2.mono HBB.out.size)
                obtain ⟨w4, hw4⟩ : ∃ w4, w4 = wr.alloc (.cells #[.int .u64 0, .string t] 71) := ⟨_, rfl⟩
                rw [← hw4] at M0 M1 M2 hT4 hq4 hb4
                have d0 := new_cellC (i := 0) M1 rfl
                have d1 := new_cellC (i := 1) M1 rfl
                have hcv : cellV 0 t = .agg #[.int .u64 0, .string t] := rfl
                clear hO2 hrd hrl ht
                go_wp2_with fail
                rw [← hw4]
                clear hw4
                refine (cell_isOf kind (by omega) 0 t (hexR rs) _ hRt hT4).mono ?_
                rintro e w5 ⟨rfl, hb⟩
                have q := keepB hq4 hb
                have m5 := keepB M1 hb
                have HB := Lib.hid (hb4.trans (hb.mono hb4.size))
                clear d0 d1 hq4 hb4 M0 M1 M2 hT4 hb
                have e0 := new_cellC (i := 0) m5 rfl
                have e1 := new_cellC (i := 1) m5 rfl
                have hVV := HV.out
                cases hi : isOfC kind 0 (hexR rs) with
                | true =>
                  have HV2 := Lib.hid (show bytesV kind l = (some (hexR rs), 0) from by rw [hVV, if_pos hi])
                  clear hVV hi
                  have c0 := new_cellC (i := 0) q rfl
                  have c1 := new_cellC (i := 1) q rfl
                  have f0 : w5.frozen? ⟨w.heap.size, 0, none⟩ = false := frozen_of_row _ _ _ _ _ q
                  have f1 : w5.frozen? ⟨w.heap.size, 1, none⟩ = false := frozen_of_row _ _ _ _ _ q
                  obtain ⟨k0, k1, k2⟩ := two_cells q (.int .u64 0) (.string t)
                  go_wp2
                  refine bodyPost_ret (by simp [results, Tryz.results124, go_sem, k0, k1, k2]; try rfl) rfl ?_
                  refine ⟨?_, (HB.out.setCell (Nat.le_refl _) _).setCell (Nat.le_refl _) _⟩
                  rw [HV2.out]
                  exact ⟨t, hRt, rfl⟩
                | false =>
                  have HV2 := Lib.hid (show bytesV kind l = (none, 11) from by rw [hVV, if_neg (by simp [hi])])
                  clear hVV hi
                  have c0 := new_cellC (i := 0) q rfl
                  have c1 := new_cellC (i := 1) q rfl
                  have f0 : w5.frozen? ⟨w.heap.size, 0, none⟩ = false := frozen_of_row _ _ _ _ _ q
                  have f1 : w5.frozen? ⟨w.heap.size, 1, none⟩ = false := frozen_of_row _ _ _ _ _ q
                  obtain ⟨k0, k1, k2⟩ := two_cells q (.int .u64 0) (.string ⟨#[]⟩)
                  go_wp2
                  refine bodyPost_ret (by simp [results, Tryz.results124, go_sem, k0, k1, k2]; try rfl) rfl ?_
                  refine ⟨?_, (HB.out.setCell (Nat.le_refl _) _).setCell (Nat.le_refl _) _⟩
                  rw [HV2.out]
                  rfl
        · have htn : T.toList.isEmpty = false := by
            rw [hTl]
            cases he : Lib.trimLeftS l digs with
            | nil => exact absurd ((trim_nil l).1 he) had
            | cons a r => rfl
          have HV := Lib.hid (show bytesV kind l = (none, 6) from by unfold bytesV; rw [if_neg h45, if_pos (.inr (.inr had))])
          clear hl h45 hodd had hTl hn
          go_enter Tryz.func124, Tryz.ntmps124
          go_wp2_with fail
          rw [← hw0]
          clear hw0
          refine (lib_Trim s l _ h).mono ?_
          rintro e w1 ⟨rfl, hb⟩
          rw [← HT.out]
          replace q := keepB q hb
          have HB := Lib.hid (N2.trans (hb.mono N2.size))
          have hT1 := (hT.later N2).later hb
          clear hb N2

          have c0 := new_cellC (i := 0) q rfl
          have c1 := new_cellC (i := 1) q rfl
          have f0 : w1.frozen? ⟨w.heap.size, 0, none⟩ = false := frozen_of_row _ _ _ _ _ q
          have f1 : w1.frozen? ⟨w.heap.size, 1, none⟩ = false := frozen_of_row _ _ _ _ _ q
          obtain ⟨k0, k1, k2⟩ := two_cells q (.int .u64 0) (.string ⟨#[]⟩)
          go_wp2
          refine bodyPost_ret (by simp [results, Tryz.results124, go_sem, k0, k1, k2]; try rfl) rfl ?_
          refine ⟨?_, (HB.out.setCell (Nat.le_refl _) _).setCell (Nat.le_refl _) _⟩
          rw [HV.out]
          rfl

end Go.Proofs.YtfpidkcdgebnpaaGreatDoor


/-
  Package cell: Text and Read, whole.
-/
namespace Go.Proofs.YtfpidkcdgebnpaaGreatDoor
open Go.RowKit Go.Shelf

set_option maxHeartbeats 4000000 in
theorem cell_TextN (kind : Int) (hk : kind = 0 ∨ kind = 1 ∨ kind = 2 ∨ kind = 5) (num : Nat) (hnum : num < 18446744073709551616) (s : ByteArray) (l : List UInt8) (w : World) (h : RdS s l) (hT : Lib3 w) (he : checkC kind num l = 0) :
    Calls Tryz.prog 53 #[.int .i64 kind, cellV num s] w fun e w' => (∃ t, e = .returned (.tuple #[.string t, .int .i64 0]) ∧ RdS t (numL kind num)) ∧ Below w.heap.size w w' := by
  obtain ⟨N0, N1, N2⟩ := new1 w (.cells #[.int .u64 (num : Int), .string s] 71)
  obtain ⟨w0, hw0⟩ : ∃ w0, w0 = w.alloc (.cells #[.int .u64 (num : Int), .string s] 71) := ⟨_, rfl⟩
  rw [← hw0] at N0 N1 N2
  have a0 := new_cellC (i := 0) N1 rfl
  have a1 := new_cellC (i := 1) N1 rfl
  have hcv : ∀ n u, cellV n u = .agg #[.int .u64 (n : Int), .string u] := fun _ _ => rfl
  have hD := cell_Check kind num s l w0 h (hT.tabs.later N2)
  rw [he] at hD
  have hL := hT.later N2
  have hk3 : (kind == 3) = false := by simp; omega
  have hk4 : (kind == 4) = false := by simp; omega
  have HK := Lib.hid hk
  clear hT he hk
  go_enter Tryz.func53, Tryz.ntmps53
  go_wp2_with fail
  rw [← hw0]
  clear hw0
  refine hD.mono ?_
  rintro e w2 ⟨rfl, hb⟩
  have HB := Lib.hid (N2.trans (hb.mono N2.size))
  have s1 := keepB N1 hb
  have hL2 := hL.later hb
  have b0 := new_cellC (i := 0) s1 rfl
  clear hb N1 N2 a0 a1 hD s1 hL
  go_wp2_with fail
  refine (cell_numText kind HK.out num hnum _ hL2).mono ?_
  rintro e w3 ⟨⟨t, rfl, ht⟩, hb⟩
  have HB3 := Lib.hid (HB.out.trans (hb.mono HB.out.size))
  clear hb hL2
  go_wp2
  go_ret2
  exact ⟨⟨_, rfl, ht⟩, HB3.out⟩

/-- What Read answers: a cell, or why there is none. -/
noncomputable def readV (kind : Int) (l : List UInt8) : Option (Nat × List UInt8) × Nat :=
  if ¬ (0 ≤ kind ∧ kind ≤ 5) then (none, 10)
  else if kind = 3 ∨ kind = 4 then ((bytesV kind l).1.map fun b => (0, b), (bytesV kind l).2)
  else match readN kind l with
    | some x => (some (x, []), 0)
    | none => (none, 6)
def RdV (o : Option (Nat × List UInt8) × Nat) (e : Ending) : Prop := match o with
  | (some (x, b), _) => ∃ t : ByteArray, RdS t b ∧ e = .returned (.tuple #[.agg #[.int .u64 (x : Int), .string t], .int .i64 0])
  | (none, k) => e = .returned (.tuple #[.agg #[.int .u64 0, .string ⟨#[]⟩], .int .i64 (k : Int)])

set_option maxHeartbeats 4000000 in
theorem cell_Read (kind : Int) (s : ByteArray) (l : List UInt8) (w : World) (h : RdS s l) (hL : Lib4 w) :
    Calls Tryz.prog 85 #[.int .i64 kind, .string s] w fun e w' => RdV (readV kind l) e ∧ Below w.heap.size w w' := by
  have hb0 : Below w.heap.size w (w.alloc (.cells #[.int .u64 0, .string ⟨#[]⟩] 71)) := (Below.refl _ _).alloc (Nat.le_refl _) _
  obtain ⟨N0, q, N2⟩ := new1 w (.cells #[.int .u64 0, .string ⟨#[]⟩] 71)
  obtain ⟨w0, hw0⟩ : ∃ w0, w0 = w.alloc (.cells #[.int .u64 0, .string ⟨#[]⟩] 71) := ⟨_, rfl⟩
  by_cases hk : 0 ≤ kind ∧ kind ≤ 5
  · by_cases h34 : kind = 3 ∨ kind = 4
    · rw [← hw0] at N0 q N2
      have hL0 := hL.later N2
      have hrb := cell_readBytes kind h34 s l w0 h hL0.l3.tabs
      have HV := Lib.hid (show readV kind l = ((bytesV kind l).1.map fun b => (0, b), (bytesV kind l).2) from by unfold readV; rw [if_neg (by simpa using hk), if_pos h34])
      have hik := cell_isKind kind w0
      rw [decide_eq_true hk] at hik
      clear hL hL0 hb0 N0
      have end1 : ∀ (w2 : World) (e : Ending), Below w0.heap.size w0 w2 → ByV (bytesV kind l) e → (∃ (t : ByteArray) (k : Nat), e = .returned (.tuple #[.agg #[.int .u64 0, .string t], .int .i64 (k : Int)]) ∧ RdV (readV kind l) e) := fun w2 e hb hv => by
        rw [HV.out]
        cases hbv : bytesV kind l with
        | mk o k =>
          rw [hbv] at hv
          cases o with
          | some b =>
            obtain ⟨t, ht, rfl⟩ := hv
            exact ⟨t, 0, rfl, t, ht, rfl⟩
          | none => exact ⟨_, k, hv, hv⟩
      rcases h34 with rfl | rfl
      · go_enter Tryz.func85, Tryz.ntmps85
        go_wp2_with fail
        rw [← hw0]
        clear hw0
        refine hik.mono ?_
        rintro e w1 ⟨rfl, rfl⟩
        go_wp2_with fail
        refine hrb.mono ?_
        rintro e w2 ⟨hv, hb⟩
        obtain ⟨t, k, rfl, hr⟩ := end1 w2 e hb hv
        have q2 := keepB q hb
        have HB := Lib.hid (N2.trans (hb.mono N2.size))
        have HR := Lib.hid hr
        have c0 := new_cellC (i := 0) q2 rfl
        have c1 := new_cellC (i := 1) q2 rfl
        have f0 : w2.frozen? ⟨w.heap.size, 0, none⟩ = false := frozen_of_row _ _ _ _ _ q2
        have f1 : w2.frozen? ⟨w.heap.size, 1, none⟩ = false := frozen_of_row _ _ _ _ _ q2
        obtain ⟨k0, k1, k2⟩ := two_cells q2 (.int .u64 0) (.string t)
        clear hv hb hr end1 hik hrb q N2
        go_wp2
        refine bodyPost_ret (by simp [results, Tryz.results85, go_sem, k0, k1, k2]; try rfl) rfl ?_
        exact ⟨HR.out, (HB.out.setCell (Nat.le_refl _) _).setCell (Nat.le_refl _) _⟩
      · go_enter Tryz.func85, Tryz.ntmps85
        go_wp2_with fail
        rw [← hw0]
        clear hw0
        refine hik.mono ?_
        rintro e w1 ⟨rfl, rfl⟩
        go_wp2_with fail
        refine hrb.mono ?_
        rintro e w2 ⟨hv, hb⟩
        obtain ⟨t, k, rfl, hr⟩ := end1 w2 e hb hv
        have q2 := keepB q hb
        have HB := Lib.hid (N2.trans (hb.mono N2.size))
        have HR := Lib.hid hr
        have c0 := new_cellC (i := 0) q2 rfl
        have c1 := new_cellC (i := 1) q2 rfl
        have f0 : w2.frozen? ⟨w.heap.size, 0, none⟩ = false := frozen_of_row _ _ _ _ _ q2
        have f1 : w2.frozen? ⟨w.heap.size, 1, none⟩ = false := frozen_of_row _ _ _ _ _ q2
        obtain ⟨k0, k1, k2⟩ := two_cells q2 (.int .u64 0) (.string t)
        clear hv hb hr end1 hik hrb q N2
        go_wp2
        refine bodyPost_ret (by simp [results, Tryz.results85, go_sem, k0, k1, k2]; try rfl) rfl ?_
        exact ⟨HR.out, (HB.out.setCell (Nat.le_refl _) _).setCell (Nat.le_refl _) _⟩
    · rw [← hw0] at N0 q N2
      have hL0 := hL.later N2
      have hrb := cell_readNum kind (by omega) s l w0 h hL0
      have HV := Lib.hid (show readV kind l = (match readN kind l with
        | some x => (some (x, []), 0)
        | none => (none, 6)) from by unfold readV; rw [if_neg (by simpa using hk), if_neg h34])
      have hik := cell_isKind kind w0
      rw [decide_eq_true hk] at hik
      have hk3 : (kind == 3) = false := by simp; omega
      have hk4 : (kind == 4) = false := by simp; omega
      clear hL hL0 hb0 N0 h34 hk
      have end1 : ∃ (x k : Nat), numV (readN kind l) = .tuple #[.agg #[.int .u64 (x : Int), .string ⟨#[]⟩], .int .i64 (k : Int)] ∧ RdV (readV kind l) (.returned (.tuple #[.agg #[.int .u64 (x : Int), .string ⟨#[]⟩], .int .i64 (k : Int)])) := by
        rw [HV.out]
        cases hr : readN kind l with
        | some x => exact ⟨x, 0, rfl, ⟨#[]⟩, empty_rd, rfl⟩
        | none => exact ⟨0, 6, rfl, rfl⟩
      obtain ⟨x, k, hn, hr⟩ := end1
      rw [hn] at hrb
      have HR := Lib.hid hr
      clear hn hr
      go_enter Tryz.func85, Tryz.ntmps85
      go_wp2_with fail
      rw [← hw0]
      clear hw0
      refine hik.mono ?_
      rintro e w1 ⟨rfl, rfl⟩
      go_wp2_with fail
      refine hrb.mono ?_
      rintro e w2 ⟨rfl, hb⟩
      have q2 := keepB q hb
      have HB := Lib.hid (N2.trans (hb.mono N2.size))
      have c0 := new_cellC (i := 0) q2 rfl
      have c1 := new_cellC (i := 1) q2 rfl
      have f0 : w2.frozen? ⟨w.heap.size, 0, none⟩ = false := frozen_of_row _ _ _ _ _ q2
      have f1 : w2.frozen? ⟨w.heap.size, 1, none⟩ = false := frozen_of_row _ _ _ _ _ q2
      obtain ⟨k0, k1, k2⟩ := two_cells q2 (.int .u64 (x : Int)) (.string ⟨#[]⟩)
      clear hb hik hrb q N2
      go_wp2
      refine bodyPost_ret (by simp [results, Tryz.results85, go_sem, k0, k1, k2]; try rfl) rfl ?_
      exact ⟨HR.out, (HB.out.setCell (Nat.le_refl _) _).setCell (Nat.le_refl _) _⟩
  · have HV := Lib.hid (show readV kind l = (none, 10) from by unfold readV; rw [if_pos hk])
    have hik := cell_isKind kind w0
    rw [decide_eq_false hk] at hik
    rw [hw0] at hik
    clear hw0 hk hL
    go_enter Tryz.func85, Tryz.ntmps85
    go_wp2_with fail
    refine hik.mono ?_
    rintro e w1 ⟨rfl, rfl⟩
    go_wp2
    refine bodyPost_ret (by simp [results, Tryz.results85, go_sem]; try rfl) rfl ?_
    refine ⟨?_, hb0⟩
    rw [HV.out]
    rfl

end Go.Proofs.YtfpidkcdgebnpaaGreatDoor

