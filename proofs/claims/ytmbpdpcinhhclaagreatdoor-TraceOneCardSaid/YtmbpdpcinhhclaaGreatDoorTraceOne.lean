/- -/
import Derived.Test.YtmbpdpcinhhclaaGreatDoorKTrcS
import Derived.Test.YtmbpdpcinhhclaaGreatDoorKTrcP
set_option linter.unusedVariables false
set_option linter.unusedSimpArgs false
set_option maxRecDepth 1000000
namespace Go.Proofs.YtmbpdpcinhhclaaGreatDoor
open Go.RowKit Go.Shelf

set_option maxHeartbeats 8000000 in
theorem traceOne_K (v : Value) (l : List UInt8) (w : World) (h : Rd w v l) (K : TrcK w) :
    Calls Tryz.prog 6 #[v] w fun e w' => e = .returned (.bool true) ∧ Below w.heap.size w w' := by
  obtain ⟨ao, cap, hv, _⟩ := id h.shape
  subst hv
  have hlen := h.len
  have hsm := h.small
  have HR := Lib.hid (fun wz (hz : Below w.heap.size w wz) => h.later hz (Nat.le_refl _))
  have hno := trD_no (b := l)
  have hen := trD_enc (b := l)
  have DC := Lib.hid (fun wz hz => K.decode wz (.slice ao l.length cap) l hz (HR.out wz hz))
  have HNo := Lib.hid hno
  have HEn := Lib.hid hen
  clear hno hen h
  by_cases hl : 4000 < l.length
  · have d1 : decide ((4000 : Int) < (l.length : Int)) = true := decide_eq_true (by omega)
    clear hl
    go_enter Tryz.func6, Tryz.ntmps6
    go_wp2_with fail
    refine (K.alive w (Below.refl _ _)).mono ?_
    rintro e w1 ⟨rfl, hb⟩
    have HB := Lib.hid hb
    clear hb
    go_wp2_with fail
    refine (K.alive w1 HB.out).mono ?_
    rintro e w2 ⟨rfl, hb⟩
    replace HB := Lib.hid (HB.out.trans (hb.mono HB.out.size))
    clear hb
    go_wp2
    go_ret
    exact ⟨rfl, HB.out⟩
  · have d1 : decide ((4000 : Int) < (l.length : Int)) = false := decide_eq_false (by omega)
    have hl4 : l.length ≤ 4000 := by omega
    clear hl
    go_enter Tryz.func6, Tryz.ntmps6
    go_wp2_with fail
    refine (K.alive w (Below.refl _ _)).mono ?_
    rintro e w1 ⟨rfl, hb⟩
    have HB := Lib.hid hb
    clear hb
    go_wp2_with fail
    refine (DC.out w1 HB.out).mono ?_
    rintro e w2 ⟨tv, rfl, hT, hCS, hb⟩
    replace HB := Lib.hid (HB.out.trans (hb.mono HB.out.size))
    obtain ⟨cs, hcs⟩ : ∃ cs, cs = (trD l).1 := ⟨_, rfl⟩
    obtain ⟨es, hes⟩ : ∃ es, es = (trD l).2.1 := ⟨_, rfl⟩
    obtain ⟨p, hp⟩ : ∃ p, p = (trD l).2.2.2.1 := ⟨_, rfl⟩
    obtain ⟨x, hx⟩ : ∃ x, x = (trD l).2.2.2.2 := ⟨_, rfl⟩
    rw [← hcs, ← hes] at hT
    rw [← hcs] at hCS
    rw [← hcs, ← hes, ← hp, ← hx] at HNo HEn
    rw [← hp, ← hx]
    clear hb DC hcs hes hp hx
    obtain ⟨sv, ev, rfl, hR, hZ⟩ := hT
    obtain ⟨ae, ne, ce, rfl⟩ := hZ.lit
    obtain ⟨ac, nc, cc, rfl⟩ := hR.lit12
    have hlc := hR.len
    have hle := hZ.len
    have N := new_one12 w2 (.cells #[.slice ac nc cc, .slice ae ne ce] 25)
    have HX := Lib.hid (show Tbox (w2.alloc (.cells #[.slice ac nc cc, .slice ae ne ce] 25)) w2.heap.size (.slice ac nc cc) (.slice ae ne ce) from N.1)
    have HT := Lib.hid (show RdT13 (w2.alloc (.cells #[.slice ac nc cc, .slice ae ne ce] 25)) (.agg #[.slice ac nc cc, .slice ae ne ce]) cs es from ⟨_, _, rfl, hR.later N.2 (Nat.le_refl _), hZ.later N.2 (Nat.le_refl _)⟩)
    have HB3 := Lib.hid (HB.out.trans (N.2.mono HB.out.size))
    have HCS := Lib.hid hCS
    obtain ⟨c0, c1⟩ := HX.out.cells
    clear N hR hZ hCS
    by_cases hx0 : x = 0
    · subst hx0
      obtain ⟨hO, e1, e2, e3, e4⟩ := HEn.out rfl
      have EA := Lib.hid (fun wz hz hT => K.encode wz (.agg #[.slice ac nc cc, .slice ae ne ce]) cs es hz hT HCS.out hO)
      obtain ⟨R, hRR⟩ : ∃ R, R = trE cs es := ⟨_, rfl⟩
      rw [← hRR] at EA e1 e2 e3
      obtain ⟨r, s, vw, i, y⟩ := R
      dsimp only at e1 e2 e3
      subst e1 e2 e3 e4
      clear HEn HNo hRR K hO
      go_wp2_with fail
      refine (EA.out _ HB3.out HT.out).mono ?_
      rintro e w4 ⟨bv, rfl, ho, hb⟩
      have HX4 := Lib.hid (HX.out.later hb)
      have HB4 := Lib.hid (HB3.out.trans (hb.mono HB3.out.size))
      have hs1 := (show Rd w4 bv r from ho.rd (by dsimp only; omega)).str
      have hs2 := (HR.out w4 HB4.out).str
      clear hb ho c0 c1 EA
      obtain ⟨c0, c1⟩ := HX4.out.cells
      go_wp2
      go_ret
      exact ⟨rfl, HB4.out⟩
    · obtain ⟨e1, e2, e3⟩ := HNo.out hx0
      subst e1 e2
      have q : ((x : Int) != 0) = true := by rw [bne_iff_ne]; omega
      have d2 : decide ((p : Int) ≥ 0) = true := decide_eq_true (by omega)
      have d3 : decide ((p : Int) ≤ (l.length : Int)) = true := decide_eq_true (by omega)
      clear HEn HNo K hx0
      go_wp2
      go_ret
      exact ⟨rfl, HB3.out⟩

end Go.Proofs.YtmbpdpcinhhclaaGreatDoor
