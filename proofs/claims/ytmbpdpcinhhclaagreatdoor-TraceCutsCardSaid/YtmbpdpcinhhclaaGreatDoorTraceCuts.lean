/- -/
import Derived.Test.YtmbpdpcinhhclaaGreatDoorKTrcS
import Derived.Test.YtmbpdpcinhhclaaGreatDoorKTrcP
import Derived.Deep.RegionHeld3
import Derived.Deep.QuietTactic
import Derived.BigQuiet
set_option linter.unusedVariables false
set_option linter.unusedSimpArgs false
set_option maxRecDepth 1000000
namespace Go.Proofs.YtmbpdpcinhhclaaGreatDoor
open Go.RowKit Go.Shelf

set_option maxHeartbeats 16000000 in
theorem traceCuts_K (v : Value) (cs : List ColB) (es : List EntB) (w : World) (hT : RdT13 w v cs es) (hC : CS cs) (hO : ∀ x ∈ es, EnO x) (K : TrcK w) :
    Calls Tryz.prog 10 #[v] w fun e w' => e = .returned (.bool true) ∧ Below w.heap.size w w' := by
  obtain ⟨sv, ev, rfl, hR, hZ⟩ := hT
  obtain ⟨ae, ne, ce, rfl⟩ := hZ.lit
  obtain ⟨ac, nc, cc, rfl⟩ := hR.lit12
  have HT := Lib.hid (fun wz (hz : Below w.heap.size w wz) => show RdT13 wz (.agg #[.slice ac nc cc, .slice ae ne ce]) cs es from ⟨_, _, rfl, hR.later hz (Nat.le_refl _), hZ.later hz (Nat.le_refl _)⟩)
  have HZ := Lib.hid hZ
  have hle := hZ.len
  have hles := hZ.small
  have HRC := Lib.hid (fun wz (hz : Below w.heap.size w wz) => hR.later hz (Nat.le_refl _))
  obtain ⟨N1, N2⟩ := new_one12 w (.cells #[.slice ac nc cc, .slice ae ne ce] 25)
  have HX := Lib.hid (show Tbox (w.alloc (.cells #[.slice ac nc cc, .slice ae ne ce] 25)) w.heap.size (.slice ac nc cc) (.slice ae ne ce) from N1)
  have HB := Lib.hid N2
  have HC := Lib.hid hC
  have HO := Lib.hid hO
  clear hR hZ N1 N2 hC hO
  go_enter Tryz.func10, Tryz.ntmps10
  go_wp2_with fail
  generalize w.alloc (.cells #[.slice ac nc cc, .slice ae ne ce] 25) = w0 at *
  obtain ⟨g, hg⟩ : ∃ g, g = w.heap.size := ⟨_, rfl⟩
  rw [← hg] at HX
  rw [← hg]
  have HG := Lib.hid hg
  clear hg
  refine (K.alive w0 HB.out).mono ?_
  rintro e w1 ⟨rfl, hb⟩
  replace HX := Lib.hid (HX.out.later hb)
  replace HB := Lib.hid (HB.out.trans (hb.mono HB.out.size))
  clear hb
  obtain ⟨c0, c1⟩ := HX.out.cells
  go_wp2_with fail
  refine (law13_great _ cs es w1 (HT.out w1 HB.out)).mono ?_
  rintro e w2 ⟨x, rfl, hx, hf, hb⟩
  replace HX := Lib.hid (HX.out.later hb)
  replace HB := Lib.hid (HB.out.trans (hb.mono HB.out.size))
  clear hb c0 c1
  obtain ⟨c0, c1⟩ := HX.out.cells
  rcases hx with rfl | rfl
  · have hfew := hf rfl
    have hes := hfew.1
    have hsm := trE_small (cs := cs) (es := es) (by omega)
    have EA := Lib.hid (fun wz hz => K.encode wz _ cs es hz (HT.out wz hz) HC.out HO.out)
    have EK := Lib.hid (fun k wz v hz hv => K.encode wz v cs (es.take k) hz hv HC.out (fun x hx => HO.out x (List.mem_of_mem_take hx)))
    have DA := Lib.hid (fun wz hz => K.head wz (.slice ac nc cc) cs hz (HRC.out wz hz) HC.out)
    have htk := trE_take (cs := cs) HO.out
    have hhd := trE_head (cs := cs) (es := es)
    obtain ⟨R, hRR⟩ : ∃ R, R = trE cs es := ⟨_, rfl⟩
    rw [← hRR] at EA hsm htk hhd
    obtain ⟨r, s, vw, i, y⟩ := R
    dsimp only at hsm htk hhd
    have HSM := Lib.hid hsm
    have HTK := Lib.hid htk
    have HHD := Lib.hid hhd
    clear hf hfew hRR hsm htk hhd K
    go_wp2_with fail
    refine (EA.out w2 HB.out).mono ?_
    rintro e w3 ⟨bv, rfl, ho, hb⟩
    replace HX := Lib.hid (HX.out.later hb)
    replace HB := Lib.hid (HB.out.trans (hb.mono HB.out.size))
    have HA := Lib.hid (show Rd w3 bv r from ho.rd (by have := HSM.out; dsimp only; omega))
    clear hb ho c0 c1 EA
    obtain ⟨c0, c1⟩ := HX.out.cells
    obtain ⟨bo, bcap, hbv, _⟩ := id HA.out.shape
    subst hbv
    have hlr := HA.out.len
    by_cases hy : y = 0
    · subst hy
      obtain ⟨n, hn⟩ : ∃ n, n = es.length := ⟨_, rfl⟩
      rw [← hn] at hle hles hes
      have HN := Lib.hid hn
      clear hn
      go_wp2
      go_loopw [32] (fun i wr => ∃ k : Nat, k ≤ n + 1 ∧ i = .int .i64 k ∧ Hid (Rd wr (.slice bo r.length bcap) r) ∧ Hid (Tbox wr g (.slice ac nc cc) (.slice ae ne ce)) ∧ Hid (Below w.heap.size w wr)) (fun i _ => n + 1 - (intOf i).toNat)
      case atStart => exact ⟨0, by omega, rfl, HA, HX, HB⟩
      case round =>
        clear HX HB HA c0 c1
        obtain ⟨k, hk, rfl, HA, HX, HB⟩ := hrel
        obtain ⟨c0, c1⟩ := HX.out.cells
        by_cases hlt : k < n + 1
        · have hkn : k ≤ es.length := by rw [← HN.out]; omega
          obtain ⟨t1, t2, t3⟩ := HTK.out (by simp) hkn
          obtain ⟨zv, hsl, hzv⟩ := HZ.out.upto k hkn
          obtain ⟨az, nz, cz, rfl⟩ := (hzv w (Below.refl _ _)).lit
          have EC := Lib.hid (fun wz (hz : Below wr.heap.size wr wz) => (EK.out k wz (.agg #[.slice ac nc cc, .slice az nz cz]) (HB.out.trans (hz.mono HB.out.size)) ⟨_, _, rfl, HRC.out wz (HB.out.trans (hz.mono HB.out.size)), hzv wz (HB.out.trans (hz.mono HB.out.size))⟩).mono
            (fun e w' h => show (∃ ov, e = .returned (.tuple #[ov, .int .i64 (k : Int), .int .i64 0]) ∧ Own w' wr.heap.size ov (trE cs (es.take k)).1) ∧ Below wr.heap.size wr w' from by
              obtain ⟨ov, he, ho, hb⟩ := h
              rw [t1, t2] at he
              exact ⟨⟨ov, he, ho.base hz.size⟩, hz.trans (hb.mono hz.size)⟩))
          obtain ⟨q, hq⟩ : ∃ q, q = (trE cs (es.take k)).1 := ⟨_, rfl⟩
          rw [← hq] at EC t3
          have hql : q.length ≤ r.length := by rw [t3, List.length_take]; omega
          obtain ⟨uv, hul, huv⟩ := HA.out.upto q.length hql
          have HUV := Lib.hid huv
          have HT3 := Lib.hid t3
          have hX := HX.out
          have Q := Lib.hid (fun wz (hz : Below wr.heap.size wr wz) => And.intro hz (hX.later hz).cells)
          have HB2 := Lib.hid (fun wz (hz : Below wr.heap.size wr wz) => HB.out.trans (hz.mono HB.out.size))
          have HX2 := Lib.hid (fun wz (hz : Below wr.heap.size wr wz) => hX.later hz)
          have HA2 := Lib.hid (fun wz (hz : Below wr.heap.size wr wz) => HA.out.later hz (Nat.le_refl _))
          have m0 : Below wr.heap.size wr wr.drew := (Below.refl _ _).drew
          have d3 : decide (r.length < q.length) = false := decide_eq_false (by omega)
          clear t1 t2 t3 hq hzv hX HA HX HB huv hkn
          go_wp2
          go_region_held3 (fun z => Below wr.heap.size wr z ∧ z.cell? ⟨g, 0, none⟩ = some (.slice ac nc cc) ∧ z.cell? ⟨g, 1, none⟩ = some (.slice ae ne ce)) (first | (exact Q.out _ m0) | go_keep)
            ((first
              | (go_at_call 14; refine (EC.out _ (by assumption)).mono ?_; rintro e w6 ⟨⟨ov, rfl, hov⟩, m3⟩; clear m0; have m0 := m3; clear m3)))
          have HB6 := Lib.hid (HB2.out _ m0)
          have HX6 := Lib.hid (HX2.out _ m0)
          have HA6 := Lib.hid (HA2.out _ m0)
          have hro := hov.rd (by have := HSM.out; omega)
          have hlo := hro.len
          have hs1 : ∀ j, (convert 28 9 ov).run Tryz.prog (w6.drewN j) = .ok (.string ⟨q.toArray⟩) (w6.drewN j) := fun j => (hro.later (Go.below_drewN (Below.refl _ _) j) (Nat.le_refl _)).str
          have hs2 : ∀ j, (convert 28 9 uv).run Tryz.prog (w6.drewN j) = .ok (.string ⟨q.toArray⟩) (w6.drewN j) := fun j => by
            have := (HUV.out (w6.drewN j) (HA6.out.later (Go.below_drewN (Below.refl _ _) j) (Nat.le_refl _))).str
            rwa [← HT3.out] at this
          clear m0 EC Q HB2 HX2 HA2 hov hro HUV HT3 hql c0 c1
          go_wp2
          go_quiet (fail)
          have HD := Lib.hid (Go.below_drewN (Below.refl w6.heap.size w6) nq)
          have HA7 := Lib.hid (HA6.out.later HD.out (Nat.le_refl _))
          have HX7 := Lib.hid (HX6.out.later HD.out)
          have HB7 := Lib.hid (HB6.out.trans (HD.out.mono HB6.out.size))
          clear HD hs1 hs2 hlo HA6 HX6 HB6
          go_wp2
          go_roundw
          case rel => exact ⟨k + 1, by omega, by go_num, HA7, HX7, HB7⟩
          case measure => simp [intOf]; omega
        · obtain rfl : k = n + 1 := by omega
          obtain ⟨u1, u2⟩ := HHD.out (by simp)
          obtain ⟨q, hq⟩ : ∃ q, q = hdB (colsL cs) := ⟨_, rfl⟩
          rw [← hq] at u1 u2
          rw [u1] at DA
          have hql : q.length ≤ r.length := by rw [u2, List.length_take]; omega
          obtain ⟨uv, hul, huv⟩ := HA.out.upto q.length hql
          have HUV := Lib.hid huv
          have HT3 := Lib.hid u2
          have d3 : decide (q.length ≤ r.length) = true := decide_eq_true hql
          clear hlt hq u1 u2 huv HX
          go_wp2_with fail
          refine (DA.out wr HB.out).mono ?_
          rintro e w6 ⟨ov, rfl, ho, hb⟩
          replace ho : Own w6 wr.heap.size ov q := ho
          have HB6 := Lib.hid (HB.out.trans (hb.mono HB.out.size))
          have HA6 := Lib.hid (HA.out.later hb (Nat.le_refl _))
          have hro := ho.rd (by have := HSM.out; omega)
          have hlo := hro.len
          have hs1 : ∀ j, (convert 28 9 ov).run Tryz.prog (w6.drewN j) = .ok (.string ⟨q.toArray⟩) (w6.drewN j) := fun j => (hro.later (Go.below_drewN (Below.refl _ _) j) (Nat.le_refl _)).str
          have hs2 : ∀ j, (convert 28 9 uv).run Tryz.prog (w6.drewN j) = .ok (.string ⟨q.toArray⟩) (w6.drewN j) := fun j => by
            have := (HUV.out (w6.drewN j) (HA6.out.later (Go.below_drewN (Below.refl _ _) j) (Nat.le_refl _))).str
            rwa [← HT3.out] at this
          clear ho hb hro HUV HT3 hql c0 c1 DA HA HB
          go_wp2
          go_quiet (fail)
          go_wp2
          go_ret
          exact ⟨rfl, Go.below_drewN HB6.out _⟩
    · have q9 : ((y : Int) != 0) = true := by rw [bne_iff_ne]; omega
      clear hy
      go_wp2
      go_ret
      exact ⟨rfl, HB.out⟩
  · clear hf
    go_wp2_with fail
    refine (K.alive w2 HB.out).mono ?_
    rintro e w3 ⟨rfl, hb⟩
    replace HB := Lib.hid (HB.out.trans (hb.mono HB.out.size))
    clear hb
    go_wp2
    go_ret
    exact ⟨rfl, HB.out⟩

end Go.Proofs.YtmbpdpcinhhclaaGreatDoor
