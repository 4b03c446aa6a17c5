/-
  The library's strconv, as package cell calls it: numbers and truth values read.
-/
import Derived.Test.YtdegeifklchjaaaGreatDoorParseHex
import Derived.Test.YtdegeifklchjaaaGreatDoorShelf3
import Derived.Lib.ParseIntB
import Derived.Shelf.Strconv.ParseBool
set_option linter.unusedVariables false
set_option linter.unusedSimpArgs false
set_option maxRecDepth 1000000
namespace Go.Proofs.YtdegeifklchjaaaGreatDoor
open Go.RowKit Go.Shelf

/-- How a reading ends: the number and no error; or some number, and an error. -/
def PE {α : Type} (o : Option α) (y : α) (ev : Value) : Prop := (o = some y ∧ ev = .nilIface) ∨ (o = none ∧ ∃ tp p, ev = .iface tp p)

structure Errs (w : World) : Prop where
  syn : ∃ tp p, w.var? Tryz.prog "strconv.ErrSyntax" = some #[.iface tp p]
  rng : ∃ tp p, w.var? Tryz.prog "strconv.ErrRange" = some #[.iface tp p]
theorem Errs.later {w w' : World} (h : Errs w) (hb : Below w.heap.size w w') : Errs w' := by
  obtain ⟨⟨t1, p1, h1⟩, ⟨t2, p2, h2⟩⟩ := h
  exact ⟨⟨t1, p1, Joins.var_stays (show Tryz.prog.globalNamed "strconv.ErrSyntax" = some 5 by kernel_rfl) h1 hb (Nat.le_refl _)⟩,
    ⟨t2, p2, Joins.var_stays (show Tryz.prog.globalNamed "strconv.ErrRange" = some 6 by kernel_rfl) h2 hb (Nat.le_refl _)⟩⟩
theorem Errs.synC {w : World} (h : Errs w) : ∃ ev, w.cell? ⟨5, 0, none⟩ = some ev ∧ (ev = .nilIface ∨ ∃ te pe, ev = .iface te pe) := by
  obtain ⟨t1, p1, h1⟩ := h.syn
  have h0 := World.var?_cell (show Tryz.prog.globalNamed "strconv.ErrSyntax" = some 5 by kernel_rfl) h1 0
  exact ⟨_, by simpa using h0, .inr ⟨t1, p1, rfl⟩⟩
theorem Errs.rngC {w : World} (h : Errs w) : ∃ ev, w.cell? ⟨6, 0, none⟩ = some ev ∧ (ev = .nilIface ∨ ∃ te pe, ev = .iface te pe) := by
  obtain ⟨t1, p1, h1⟩ := h.rng
  have h0 := World.var?_cell (show Tryz.prog.globalNamed "strconv.ErrRange" = some 6 by kernel_rfl) h1 0
  exact ⟨_, by simpa using h0, .inr ⟨t1, p1, rfl⟩⟩

theorem RdS.sz {s : ByteArray} {l : List UInt8} (h : RdS s l) : s.size ≤ 140737488351232 := by rw [h.size]; exact h.small

def okE {α : Type} : Lib.NumEnd α → Option α
  | .ok v => some v
  | _ => none

theorem parseUintM_le (M : Nat) : ∀ (l : List UInt8) (acc u : Nat), acc ≤ M → Lib.parseUintM M acc l = .ok u → u ≤ M
  | [], acc, u, ha, h => by
    simp only [Lib.parseUintM, Lib.NumEnd.ok.injEq] at h
    omega
  | c :: r, acc, u, ha, h => by
    unfold Lib.parseUintM at h
    split at h
    · split at h
      · cases h
      · split at h
        · cases h
        · exact parseUintM_le M r _ u (by omega) h
    · cases h
theorem parseUintB_lt {l : List UInt8} {u : Nat} (h : Lib.parseUintB 64 l = .ok u) : u < 18446744073709551616 := by
  unfold Lib.parseUintB at h
  split at h
  · cases h
  · have := parseUintM_le (2 ^ 64 - 1) l 0 u (by omega) h
    omega

theorem lib_ParseInt (s : ByteArray) (l : List UInt8) (w : World) (h : RdS s l) (hE : Errs w) :
    Calls Tryz.prog 61 #[.string s, .int .i64 10, .int .i64 64] w fun e w' => (∃ y ev, e = .returned (.tuple #[.int .i64 y, ev]) ∧ PE (okE (Lib.parseIntB 64 l)) y ev) ∧ Below w.heap.size w w' := by
  have hz := h.sz
  obtain ⟨t1, p1, h1⟩ := hE.syn
  obtain ⟨t2, p2, h2⟩ := hE.rng
  cases hp : Lib.parseIntB 64 l with
  | ok v =>
    have c : Calls Tryz.prog 61 #[.string s, .int .i64 10, .int .i64 64] w _ := Any.strconv_ParseInt_10_at64_ok Tryz.laysParseInt s (by omega) v (by rw [h.dl]; exact hp) w
    refine c.mono fun e w' ⟨he, hw⟩ => ⟨⟨v, _, he, .inl ⟨rfl, rfl⟩⟩, ?_⟩
    rcases hw with rfl | ⟨t, rfl⟩
    · exact Below.refl _ _
    · exact Lib.bytesWorld_below _ _ _
  | «syntax» =>
    have c : Calls Tryz.prog 61 #[.string s, .int .i64 10, .int .i64 64] w _ := Any.strconv_ParseInt_10_at64_syntax_var Tryz.laysParseInt s (by omega) (by rw [h.dl]; exact hp) t1 p1 w h1
    exact c.mono fun e w' ⟨N, he, _, _, hb⟩ => ⟨⟨0, _, he, .inr ⟨rfl, _, _, rfl⟩⟩, hb⟩
  | range =>
    have c : Calls Tryz.prog 61 #[.string s, .int .i64 10, .int .i64 64] w _ := Any.strconv_ParseInt_10_at64_range_var Tryz.laysParseInt s (by omega) (by rw [h.dl]; exact hp) t2 p2 w h2
    exact c.mono fun e w' ⟨N, he, _, _, hb⟩ => ⟨⟨_, _, he, .inr ⟨rfl, _, _, rfl⟩⟩, hb⟩

theorem lib_ParseUint (s : ByteArray) (l : List UInt8) (w : World) (h : RdS s l) (hE : Errs w) :
    Calls Tryz.prog 63 #[.string s, .int .i64 10, .int .i64 64] w fun e w' => (∃ (y : Nat) (ev : Value), e = .returned (.tuple #[.int .u64 (y : Int), ev]) ∧ y < 18446744073709551616 ∧ PE (okE (Lib.parseUintB 64 l)) y ev) ∧ Below w.heap.size w w' := by
  have hz := h.sz
  obtain ⟨t1, p1, h1⟩ := hE.syn
  obtain ⟨t2, p2, h2⟩ := hE.rng
  cases hp : Lib.parseUintB 64 l with
  | ok v =>
    have c : Calls Tryz.prog 63 #[.string s, .int .i64 10, .int .i64 64] w _ := Any.strconv_ParseUint_10_at64_ok Tryz.laysParseUint s (by omega) v (by rw [h.dl]; exact hp) w
    have hv : v < 18446744073709551616 := parseUintB_lt hp
    refine c.mono fun e w' ⟨he, hw⟩ => ⟨⟨v, _, he, hv, .inl ⟨rfl, rfl⟩⟩, ?_⟩
    rcases hw with rfl | rfl
    · exact Below.refl _ _
    · exact Lib.bytesWorld_below _ _ _
  | «syntax» =>
    have c : Calls Tryz.prog 63 #[.string s, .int .i64 10, .int .i64 64] w _ := Any.strconv_ParseUint_10_at64_syntax_var Tryz.laysParseUint s (by omega) (by rw [h.dl]; exact hp) t1 p1 w h1
    exact c.mono fun e w' ⟨N, he, _, _, hb⟩ => ⟨⟨0, _, he, by omega, .inr ⟨rfl, _, _, rfl⟩⟩, hb⟩
  | range =>
    have c : Calls Tryz.prog 63 #[.string s, .int .i64 10, .int .i64 64] w _ := Any.strconv_ParseUint_10_at64_range_var Tryz.laysParseUint s (by omega) (by rw [h.dl]; exact hp) t2 p2 w h2
    exact c.mono fun e w' ⟨N, he, _, _, hb⟩ => ⟨⟨18446744073709551615, _, he, by omega, .inr ⟨rfl, _, _, rfl⟩⟩, hb⟩

theorem lib_ParseBool (s : ByteArray) (l : List UInt8) (w : World) (h : RdS s l) (hE : Errs w) :
    Calls Tryz.prog 62 #[.string s] w fun e w' => (∃ (y : Bool) (ev : Value), e = .returned (.tuple #[.bool y, ev]) ∧ PE (Lib.parseBool l) y ev) ∧ Below w.heap.size w w' := by
  have hz := h.sz
  obtain ⟨t1, p1, h1⟩ := hE.syn
  cases hp : Lib.parseBool l with
  | some b =>
    have c : Calls Tryz.prog 62 #[.string s] w _ := Any.strconv_ParseBool Tryz.laysParseBool s b (by rw [h.dl]; exact hp) w
    exact c.mono fun e w' ⟨he, hw⟩ => ⟨⟨b, _, he, .inl ⟨rfl, rfl⟩⟩, by rw [hw]; exact Below.refl _ _⟩
  | none =>
    have c : Calls Tryz.prog 62 #[.string s] w _ := Any.strconv_ParseBool_err_var Tryz.laysParseBoolE s (by omega) (by rw [h.dl]; exact hp) t1 p1 w h1
    exact c.mono fun e w' ⟨N, he, _, _, hb⟩ => ⟨⟨false, _, he, .inr ⟨rfl, _, _, rfl⟩⟩, hb⟩

/-- A text at base 16, whole. -/
def parseH (l : List UInt8) : Lib.NumEnd Nat := if l = [] then .«syntax» else parseX 0 l

theorem parseX_lt : ∀ (l : List UInt8) (acc u : Nat), acc < 18446744073709551616 → parseX acc l = .ok u → u < 18446744073709551616
  | [], acc, u, ha, h => by
    simp only [parseX, Lib.NumEnd.ok.injEq] at h
    omega
  | c :: r, acc, u, ha, h => by
    cases hd : digX c.toNat with
    | none => rw [parseX_none hd] at h; cases h
    | some d =>
      rw [parseX_digit hd] at h
      have hd16 : d < 16 := by
        unfold digX at hd
        split at hd
        · injection hd; omega
        · split at hd
          · injection hd; omega
          · cases hd
      split at h
      · cases h
      · exact parseX_lt r _ u (by omega) h

set_option maxHeartbeats 4000000 in
theorem lib_ParseHex (s : ByteArray) (l : List UInt8) (w : World) (h : RdS s l) (hE : Errs w) :
    Calls Tryz.prog 63 #[.string s, .int .i64 16, .int .i64 64] w fun e w' => (∃ (y : Nat) (ev : Value), e = .returned (.tuple #[.int .u64 (y : Int), ev]) ∧ y < 18446744073709551616 ∧ PE (okE (parseH l)) y ev) ∧ Below w.heap.size w w' := by
  have hz := h.sz
  have hin : Calls Tryz.prog 82 #[.string s, .int .i64 16, .int .i64 64] w fun e w' => e = .returned (endX (parseH l)) ∧ Below w.heap.size w w' := by
    by_cases hl : l = []
    · rw [show parseH l = .«syntax» from by unfold parseH; rw [if_pos hl]]
      have hem : s.toList.isEmpty = true := by rw [h.toList, hl]; rfl
      go_enter Tryz.func82, Tryz.ntmps82
      go_wp2
      go_ret2
      exact ⟨rfl, Below.refl _ _⟩
    · rw [show parseH l = parseX 0 l from by unfold parseH; rw [if_neg hl]]
      exact intl_ParseHex s l h hl w
  cases hp : parseH l with
  | ok v =>
    rw [hp] at hin
    have hv : v < 18446744073709551616 := by
      unfold parseH at hp
      split at hp
      · cases hp
      · exact parseX_lt l 0 v (by omega) hp
    clear hp
    go_enter Tryz.func63, Tryz.ntmps63
    go_wp2_with fail
    refine hin.mono ?_
    rintro e w1 ⟨rfl, hb⟩
    unfold endX
    go_wp2
    go_ret2
    exact ⟨⟨v, _, rfl, hv, .inl ⟨rfl, rfl⟩⟩, hb⟩
  | «syntax» =>
    rw [hp] at hin
    clear hp
    go_enter Tryz.func63, Tryz.ntmps63
    go_wp2_with fail
    refine hin.mono ?_
    rintro e w1 ⟨rfl, hb⟩
    obtain ⟨ev, he1, he2⟩ := (hE.later hb).synC
    have c : Calls Tryz.prog 80 _ w1 _ := Any.strconv_toError_syntax Tryz.laysToError ⟨#[80, 97, 114, 115, 101, 85, 105, 110, 116]⟩ s 16 64 ev w1 (by omega) he1 he2
    unfold endX
    go_wp2_with fail
    refine c.mono ?_
    rintro e w2 ⟨N, rfl, _, _, hb2⟩
    have HB := Lib.hid (hb.trans (hb2.mono hb.size))
    clear hb hb2 c he1
    go_wp2
    go_ret2
    exact ⟨⟨0, _, rfl, by omega, .inr ⟨rfl, _, _, rfl⟩⟩, HB.out⟩
  | range =>
    rw [hp] at hin
    clear hp
    go_enter Tryz.func63, Tryz.ntmps63
    go_wp2_with fail
    refine hin.mono ?_
    rintro e w1 ⟨rfl, hb⟩
    obtain ⟨ev, he1, he2⟩ := (hE.later hb).rngC
    have c : Calls Tryz.prog 80 _ w1 _ := Any.strconv_toError_range Tryz.laysToError ⟨#[80, 97, 114, 115, 101, 85, 105, 110, 116]⟩ s 16 64 ev w1 (by omega) he1 he2
    unfold endX
    go_wp2_with fail
    refine c.mono ?_
    rintro e w2 ⟨N, rfl, _, _, hb2⟩
    have HB := Lib.hid (hb.trans (hb2.mono hb.size))
    clear hb hb2 c he1
    go_wp2
    go_ret2
    exact ⟨⟨18446744073709551615, _, rfl, by omega, .inr ⟨rfl, _, _, rfl⟩⟩, HB.out⟩

end Go.Proofs.YtdegeifklchjaaaGreatDoor
