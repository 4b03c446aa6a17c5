/-
  ZsetOrder: the set of pairs is one, hangs not on their order, and has of each row the sum of its weights; collected again it is itself. For every input.
-/
import Derived.Test.YtfpidkcdgebnpaaGreatDoorGZDefs
import Derived.Test.YtfpidkcdgebnpaaGreatDoorGZEnd
import Derived.Test.YtfpidkcdgebnpaaGreatDoorGZRef
import Derived.Test.YtfpidkcdgebnpaaGreatDoorGRow
import Derived.Test.YtfpidkcdgebnpaaGreatDoorGBaseA
import Derived.BigRegion
import Derived.IntWalk
set_option linter.unusedVariables false
set_option linter.unusedSimpArgs false
set_option maxRecDepth 1000000
namespace Go.Proofs.YtfpidkcdgebnpaaGreatDoor
open Go.RowKit Go.Shelf

/-- The same pairs, whatever their order. -/
def Turned (a m : List PairB) : Prop := m.length = a.length ∧ PSO m ∧ (∀ p, p ∈ a ↔ p ∈ m) ∧ ∀ r, Z.sumW a r = Z.sumW m r
theorem Turned.start {a : List PairB} (h : PSO a) : Turned a a := ⟨rfl, h, fun _ => Iff.rfl, fun _ => rfl⟩
theorem Turned.swap {a m : List PairB} (h : Turned a m) {x y : Nat} (hx : x < a.length) (hy : y < a.length) : Turned a (swapP m x y) := by
  obtain ⟨h1, h2, h3, h4⟩ := h
  refine ⟨by rw [swapP_len]; exact h1, fun p hp => h2 p (swapP_mem (by omega) (by omega) hp), fun p => ⟨fun hp => swapP_back m x y (by omega) (by omega) ((h3 p).1 hp), fun hp => (h3 p).2 (swapP_mem (by omega) (by omega) hp)⟩, fun r => by rw [swapP_sum m x y (by omega) (by omega)]; exact h4 r⟩

theorem u64_sum (s x : Int) : IntKind.u64.wrap (s % 18446744073709551616 + IntKind.u64.wrap x) = (s + x) % 18446744073709551616 := by
  have h : ∀ z : Int, IntKind.u64.wrap z = z % 18446744073709551616 := fun z => by simp [IntKind.wrap, IntKind.signed, IntKind.bits]
  rw [h, h]; omega
theorem i64_u64 {T : Int} (h : i64 T) : IntKind.i64.wrap (T % 18446744073709551616) = T := by
  unfold i64 at h
  by_cases h0 : 0 ≤ T
  · rw [show T % 18446744073709551616 = T from by omega]; exact IntWalk.i64_in _ (by omega)
  · rw [show T % 18446744073709551616 = T + 18446744073709551616 from by omega]
    simp [IntKind.wrap, IntKind.signed, IntKind.bits]; omega

set_option maxHeartbeats 16000000 in
theorem zsetOrder_walk (v1 : Value) (cs : List ColB) (x0 : Value) (a : List PairB) (v2 : Value) (s : List Int) (w : World) (hR : RdC w v1 cs) (hC : CS cs) (hA : RdP w x0 a ∧ PSO a ∧ a.length * 32 ≤ 140737488351232) (h2 : RdI .u16 w v2 s) (hT : Tabs w) (hL : Lib4 w) (hX : Mx w) :
    Calls Tryz.prog 6 #[v1, x0, v2] w fun e w' => e = .returned (.bool true) ∧ Below w.heap.size w w' := by
  have K := Lib.hid (lawK v1 cs w hR hC hT hL hX)
  have hl1 := hR.len
  have hsm1 := hR.small
  have RA := Lib.hid (fun wz (hz : Below w.heap.size w wz) => hA.1.later hz (Nat.le_refl _))
  have PA := Lib.hid hA.2
  have hlen2 := h2.len (t := 48) (by kernel_rfl)
  have hidx2 := h2.idx (t := 48) (by kernel_rfl) (by kernel_rfl)
  have HIX := Lib.hid hidx2
  have H2 := Lib.hid h2
  have hla := hA.1.len
  have hsa := hA.1.small
  obtain ⟨ao0, no0, co0, rfl⟩ := hA.1.lit
  obtain ⟨n, hn⟩ : ∃ n, n = cs.length := ⟨_, rfl⟩
  rw [← hn] at hl1 hsm1
  obtain ⟨l, hl⟩ : ∃ l, l = a.length := ⟨_, rfl⟩
  rw [← hl] at hla hsa
  have HLN := Lib.hid hl
  obtain ⟨t, ht⟩ : ∃ t, t = s.length := ⟨_, rfl⟩
  rw [← ht] at hlen2
  have HTN := Lib.hid ht
  have GR := Lib.hid (fun wz (hz : Below w.heap.size w wz) => great_one8 (.slice ao0 no0 co0) a wz (RA.out wz hz))
  clear hR hA h2 hT hL hX hn hl ht hidx2
  have HB := Lib.hid (Below.refl w.heap.size w)
  obtain ⟨x, hx⟩ : ∃ x, x = clcE cs a := ⟨_, rfl⟩
  have CA := Lib.hid (fun wz h => K.out.collect wz _ a h (RA.out wz h) PA.out.1 (by have := PA.out.2; omega))
  rw [← hx] at CA
  have HX := Lib.hid hx
  clear hx
  go_enter Tryz.func6, Tryz.ntmps6
  go_wp2_with fail
  refine (K.out.alive _ HB.out).mono ?_
  rintro e w2 ⟨rfl, hb⟩
  replace HB := Lib.hid (HB.out.trans (hb.mono HB.out.size))
  clear hb
  go_wp2_with fail
  refine (GR.out _ HB.out).mono ?_
  rintro e w3 ⟨q, rfl, hq, hb⟩
  replace HB := Lib.hid (HB.out.trans (hb.mono HB.out.size))
  clear hb GR
  rcases hq with rfl | rfl
  · by_cases hn30 : 30 < n
    · go_wp2_with fail
      refine (K.out.alive _ HB.out).mono ?_
      rintro e w4 ⟨rfl, hb⟩
      replace HB := Lib.hid (HB.out.trans (hb.mono HB.out.size))
      clear hb
      go_wp2
      go_ret
      exact ⟨rfl, HB.out⟩
    · by_cases hl100 : 100 < l
      · go_wp2_with fail
        refine (K.out.alive _ HB.out).mono ?_
        rintro e w4 ⟨rfl, hb⟩
        replace HB := Lib.hid (HB.out.trans (hb.mono HB.out.size))
        clear hb
        go_wp2
        go_ret
        exact ⟨rfl, HB.out⟩
      · by_cases ht200 : 200 < t
        · go_wp2_with fail
          refine (K.out.alive _ HB.out).mono ?_
          rintro e w4 ⟨rfl, hb⟩
          replace HB := Lib.hid (HB.out.trans (hb.mono HB.out.size))
          clear hb
          go_wp2
          go_ret
          exact ⟨rfl, HB.out⟩
        · go_wp2_with fail
          refine (CA.out _ HB.out).mono ?_
          rintro e w4 ⟨va, rfl, hra, hb⟩
          replace HB := Lib.hid (HB.out.trans (hb.mono HB.out.size))
          have FA := Lib.hid hra
          clear hb hra CA
          have FL := Lib.hid (RA.out w4 HB.out)
          obtain ⟨us, hu1, hu2, hu3⟩ := FL.out.app
          obtain ⟨g1, g2⟩ := hu3 _ ((Below.refl w4.heap.size w4).alloc (Nat.le_refl _) (.cells #[] 51))
          have HG1 := Lib.hid g1
          have HG2 := Lib.hid (g2 (.slice (some ⟨w4.heap.size, 0, none⟩) 0 0) (fun g hg => by injection hg with hg; exact Nat.le_of_eq hg))
          have HO := Lib.hid (ownP_empty w4 w4.heap.size (Nat.le_refl _))
          have HU := Lib.hid hu1
          have hlu : us.length = l := hu2.trans HLN.out.symm
          have HBw := HB
          clear g1 g2 hu1 hu2 hu3
          go_wp2_with (with_reducible refine wplP_appendAll w4.heap.size _ ?hs HO.out (.slice ao0 no0 co0) ?hx us HG1.out HG2.out ?hn ?hbase w4.heap.size w4 ((Below.refl _ _).alloc (Nat.le_refl _) _) (Nat.le_refl _) ?_)
          case hs => rfl
          case hx => rfl
          case hn => simp; omega
          case hbase => simp
          intro vm wm ho hb _ _
          rw [List.nil_append, HU.out] at ho
          have HO2 := Lib.hid ho
          have HM2 := Lib.hid hb
          have hszw : w.heap.size ≤ w4.heap.size := HB.out.size
          clear ho hb HG1 HG2 HO HU hlu FL HB
          go_wp2
          go_loopw [58] (fun i wr => ∃ (k : Nat) (m : List PairB), k ≤ t ∧ i = .int .i64 k ∧ Hid (Turned a m) ∧ Hid (OwnP wr w4.heap.size vm m) ∧ Hid (Below w4.heap.size w4 wr)) (fun i _ => t - (intOf i).toNat)
          case atStart => exact ⟨0, a, by omega, rfl, Lib.hid (Turned.start PA.out.1), HO2, HM2⟩
          case round =>
            obtain ⟨k, m, hk, rfl, HT, HO, HC⟩ := hrel
            have hml : m.length = l := HT.out.1.trans HLN.out.symm
            have hlenm := (HO.out.rd (by omega)).len
            rw [hml] at hlenm
            clear HO2 HM2
            by_cases hlt : k < t
            · have hks : k < s.length := by rw [← HTN.out]; exact hlt
              have hcel := ((H2.out.later HBw.out (Nat.le_refl _)).later HC.out (Nat.le_refl _)).cells k hks
              have hx := HIX.out k hks
              obtain ⟨q, hq⟩ : ∃ q : Nat, atI s k = (q : Int) ∧ q ≤ 65535 := by
                have := (H2.out.mem hks)
                simp [Lit.wf, IntKind.min, IntKind.max, IntKind.signed, IntKind.bits] at this
                exact ⟨(atI s k).toNat, by omega, by omega⟩
              obtain ⟨hq, hq2⟩ := hq
              rw [hq] at hcel
              clear hks hq
              by_cases h0 : ¬ 0 < l
              · go_wp2
                go_roundw
                case rel => exact ⟨k + 1, m, by omega, by go_num, HT, HO, HC⟩
                case measure => simp [intOf]; omega
              · have h0' : decide ((0 : Int) < (l : Int)) = true := decide_eq_true (by omega)
                have h0'' : ((l : Int) == 0) = false := by rw [Bool.eq_false_iff]; intro hh; have := beq_iff_eq.1 hh; omega
                obtain ⟨a1, ha⟩ : ∃ a1 : Nat, (k : Int).tmod (l : Int) = (a1 : Int) ∧ a1 < l := ⟨k % l, by rw [Int.tmod_eq_emod_of_nonneg (by omega)]; omega, Nat.mod_lt _ (by omega)⟩
                obtain ⟨b1, hb⟩ : ∃ b1 : Nat, (q : Int).tmod (l : Int) = (b1 : Int) ∧ b1 < l := ⟨q % l, by rw [Int.tmod_eq_emod_of_nonneg (by omega)]; omega, Nat.mod_lt _ (by omega)⟩
                obtain ⟨ha, ha2⟩ := ha
                obtain ⟨hb, hb2⟩ := hb
                go_wp2
                go_quiet (fail)
                have HO5 := Lib.hid (HO.out.later (_root_.Go.below_drewN (Below.refl wr.heap.size wr) nq) (Nat.le_refl _))
                have HC5 := Lib.hid (_root_.Go.below_drewN HC.out nq)
                clear HO HC hcel hlenm
                generalize wr.drewN nq = w5 at *
                obtain ⟨g, ra, rb, hbg, hia, hib, ca0, ca1, cb0, cb1, ⟨fa0, fa1, fb0, fb1⟩, ⟨ra1, ra2, ra3, rfl⟩, ⟨rb1, rb2, rb3, rfl⟩, hO6⟩ := HO5.out.swap (by omega) (a := a1) (b := b1) (by omega) (by omega)
                have HTS := Lib.hid (HT.out.swap (x := a1) (y := b1) (by rw [← HLN.out]; exact ha2) (by rw [← HLN.out]; exact hb2))
                obtain ⟨j1, hj1⟩ : ∃ j, j = a1 * 2 := ⟨_, rfl⟩
                obtain ⟨j2, hj2⟩ : ∃ j, j = b1 * 2 := ⟨_, rfl⟩
                obtain ⟨xa, hxa⟩ : ∃ j, j = (m.getD a1 default).2 := ⟨_, rfl⟩
                obtain ⟨xb, hxb⟩ : ∃ j, j = (m.getD b1 default).2 := ⟨_, rfl⟩
                rw [← hj1] at hia ca0 ca1 fa0 fa1 hO6
                rw [← hj2] at hib cb0 cb1 fb0 fb1 hO6
                rw [← hxa] at ca1 hO6
                rw [← hxb] at cb1 hO6
                have HO6 := Lib.hid hO6
                have HBG := Lib.hid hbg
                have fin : ∀ wz, wz = ((((w5.setCell ⟨g, j1, none⟩ (.slice rb1 rb2 rb3)).setCell ⟨g, j1 + 1, none⟩ (.int .i64 xb)).setCell ⟨g, j2, none⟩ (.slice ra1 ra2 ra3)).setCell ⟨g, j2 + 1, none⟩ (.int .i64 xa)).drew → Hid (OwnP wz w4.heap.size vm (swapP m a1 b1)) ∧ Hid (Below w4.heap.size w4 wz) := fun wz hz => by
                  subst hz
                  exact ⟨Lib.hid HO6.out.drew, Lib.hid ((((HC5.out.setCell (p := ⟨g, j1, none⟩) HBG.out _).setCell (p := ⟨g, j1 + 1, none⟩) HBG.out _).setCell (p := ⟨g, j2, none⟩) HBG.out _).setCell (p := ⟨g, j2 + 1, none⟩) HBG.out _).drew⟩
                have FIN := Lib.hid fin
                clear hO6 hbg fin hxa hxb HO5 HC5 HO6 HBG HT
                by_cases hj : a1 = b1
                · have e12 : j1 = j2 := by omega
                  obtain rfl : xa = xb := by
                    have := ca1
                    rw [e12, cb1] at this
                    injection this with this
                    injection this with _ this
                    exact this.symm
                  have e2 : Value.slice ra1 ra2 ra3 = Value.slice rb1 rb2 rb3 := by
                    have := ca0
                    rw [e12, cb0] at this
                    injection this with this
                    exact this.symm
                  injection e2 with e3 e4 e5
                  subst e3 e4 e5
                  clear hib cb0 cb1 fb0 fb1 hj1 hj2
                  subst hj e12
                  go_wp2
                  go_region
                  obtain ⟨HO7, HC7⟩ := FIN.out _ rfl
                  go_wp2
                  go_roundw
                  case rel => exact ⟨k + 1, _, by omega, by go_num, HTS, HO7, HC7⟩
                  case measure => simp [intOf]; omega
                · have d1 : j1 ≠ j2 := by omega
                  have d2 : j1 + 1 ≠ j2 := by omega
                  have d3 : j2 + 1 ≠ j1 := by omega
                  clear hj1 hj2 hj
                  go_wp2
                  go_region
                  obtain ⟨HO7, HC7⟩ := FIN.out _ rfl
                  go_wp2
                  go_roundw
                  case rel => exact ⟨k + 1, _, by omega, by go_num, HTS, HO7, HC7⟩
                  case measure => simp [intOf]; omega
            · obtain rfl : k = t := by omega
              have HB := Lib.hid (HBw.out.trans (HC.out.mono hszw))
              have FM := Lib.hid (HO.out.rd (by omega))
              replace FA := Lib.hid (FA.out.later HC.out (Nat.le_refl _))
              obtain ⟨q1, q2⟩ := clc_same (cs := cs) PA.out.1 HT.out.2.1 HT.out.2.2.1 HT.out.2.2.2
              have CM := Lib.hid (fun wz h hz => K.out.collect wz vm m h hz HT.out.2.1 (by omega))
              obtain ⟨y, hy⟩ : ∃ y, y = clcE cs m := ⟨_, rfl⟩
              rw [← hy, ← HX.out] at q1
              rw [← hy, ← q2] at CM
              clear hy q2 HO HC HT hml hlenm hlt hk HBw hszw HIX H2
              go_wp2_with fail
              refine (CM.out _ HB.out FM.out).mono ?_
              rintro e w100 ⟨vb, rfl, hrb, hb⟩
              replace HB := Lib.hid (HB.out.trans (hb.mono HB.out.size))
              replace FA := Lib.hid (FA.out.later hb (Nat.le_refl _))
              replace FM := Lib.hid (FM.out.later hb (Nat.le_refl _))
              have FB := Lib.hid hrb
              clear hb hrb CM FM
              by_cases hx0 : x = 0
              · obtain rfl : y = 0 := q1.1 hx0
                subst hx0
                obtain ⟨za, sa, va1⟩ := clc_ok PA.out.1 HX.out.symm
                obtain ⟨A, hAA⟩ : ∃ A, A = clcO cs a := ⟨_, rfl⟩
                rw [← hAA] at za sa FA FB
                have ZA := Lib.hid za
                have SA := Lib.hid sa
                have VA := Lib.hid va1
                obtain ⟨e1, e2⟩ := clc_as za.1 za.all za (fun _ => rfl)
                have CC := Lib.hid (fun wz h hz => K.out.collect wz va A h hz ZA.out.1 (by have := ZA.out.few; omega))
                have CK := Lib.hid (fun wz h hz => K.out.check wz va A h hz ZA.out.1)
                rw [e1, e2] at CC
                rw [za.2] at CK
                clear e1 e2 za sa va1 hAA q1
                go_wp2_with fail
                refine (CC.out _ HB.out FA.out).mono ?_
                rintro e w101 ⟨vc, rfl, hrc, hb⟩
                replace HB := Lib.hid (HB.out.trans (hb.mono HB.out.size))
                replace FA := Lib.hid (FA.out.later hb (Nat.le_refl _))
                replace FB := Lib.hid (FB.out.later hb (Nat.le_refl _))
                have FC := Lib.hid hrc
                clear hb hrc CC
                go_wp2_with fail
                refine (CK.out _ HB.out FA.out).mono ?_
                rintro e w102 ⟨rfl, hb⟩
                replace HB := Lib.hid (HB.out.trans (hb.mono HB.out.size))
                replace FA := Lib.hid (FA.out.later hb (Nat.le_refl _))
                replace FB := Lib.hid (FB.out.later hb (Nat.le_refl _))
                replace FC := Lib.hid (FC.out.later hb (Nat.le_refl _))
                clear hb CK
                go_wp2_with fail
                refine (zset_Same va vb _ _ _ FA.out FB.out).mono ?_
                rintro e w103 ⟨rfl, hb⟩
                replace HB := Lib.hid (HB.out.trans (hb.mono HB.out.size))
                replace FA := Lib.hid (FA.out.later hb (Nat.le_refl _))
                replace FB := Lib.hid (FB.out.later hb (Nat.le_refl _))
                replace FC := Lib.hid (FC.out.later hb (Nat.le_refl _))
                clear hb FB
                rw [decide_eq_true (rfl : A = A)]
                go_wp2_with fail
                refine (zset_Same va vc _ _ _ FA.out FC.out).mono ?_
                rintro e w104 ⟨rfl, hb⟩
                replace HB := Lib.hid (HB.out.trans (hb.mono HB.out.size))
                replace FA := Lib.hid (FA.out.later hb (Nat.le_refl _))
                replace FC := Lib.hid (FC.out.later hb (Nat.le_refl _))
                clear hb FC
                rw [decide_eq_true (rfl : A = A)]
                have HBW := HB
                have hszW : w.heap.size ≤ w104.heap.size := HB.out.size
                clear HB
                go_wp2
                go_loopw [145] (fun i wr => ∃ k : Nat, k ≤ l ∧ i = .int .i64 k ∧ Hid (Below w104.heap.size w104 wr)) (fun i _ => l - (intOf i).toNat)
                case atStart => exact ⟨0, by omega, rfl, Lib.hid (Below.refl _ _)⟩
                case round =>
                  obtain ⟨k, hk, rfl, HC⟩ := hrel
                  by_cases hlt : k < l
                  · have hka : k < a.length := by rw [← HLN.out]; exact hlt
                    have HRA := Lib.hid ((RA.out _ HBW.out).later HC.out (Nat.le_refl _))
                    obtain ⟨b, o, rv, hi, c0, c1, re, hbl⟩ := HRA.out.get hka
                    have hv := VA.out (a.getD k default) (getD_mem' _ _ _ hka)
                    rcases hpg : a.getD k default with ⟨r, x⟩
                    rw [hpg] at c1 re hv
                    dsimp only at c1 re hv
                    have HV := Lib.hid hv
                    obtain ⟨f1, f2, f3, rfl⟩ := re.lit
                    have HRE := Lib.hid re
                    clear hpg hka re hv
                    go_wp2
                    have hb1 := (Below.refl wr.heap.size wr).alloc (Nat.le_refl _) (.cells #[.slice f1 f2 f3, .int .i64 x] 51)
                    have hg1 := heap_alloc_new wr (.cells #[.slice f1 f2 f3, .int .i64 x] 51)
                    replace HC := Lib.hid (HC.out.trans (hb1.mono HC.out.size))
                    replace HRA := Lib.hid (HRA.out.later hb1 (Nat.le_refl _))
                    replace HRE := Lib.hid (HRE.out.later hb1 (Nat.le_refl _))
                    clear hi c0 c1 hbl hb1
                    generalize wr.alloc (.cells #[.slice f1 f2 f3, .int .i64 x] 51) = wp at *
                    generalize wr.heap.size = gp at *
                    have HG := Lib.hid hg1
                    have hgs : gp < wp.heap.size := (Array.getElem?_eq_some_iff.1 hg1).1
                    clear hg1
                    go_loopw [20, 151] (fun sv i wq => ∃ j : Nat, j ≤ l ∧ i = .int .i64 j ∧ sv = .int .u64 (Z.sumW (a.take j) r % 18446744073709551616) ∧ Hid (Below wp.heap.size wp wq)) (fun _ i _ => l - (intOf i).toNat)
                    case atStart => exact ⟨0, by omega, rfl, rfl, Lib.hid (Below.refl _ _)⟩
                    case round =>
                      obtain ⟨j, hj, rfl, rfl, HD⟩ := hrel
                      by_cases hlt2 : j < l
                      · have hja : j < a.length := by rw [← HLN.out]; exact hlt2
                        obtain ⟨b2, o2, rv2, hi2, d0, d1, re2, hbl2⟩ := (HRA.out.later HD.out (Nat.le_refl _)).get hja
                        have hst := sumW_take hja r
                        rcases hpg : a.getD j default with ⟨r2, x2⟩
                        rw [hpg] at d1 re2 hst
                        dsimp only at d1 re2 hst
                        obtain ⟨e1, e2, e3, rfl⟩ := re2.lit
                        have HST := Lib.hid hst
                        have hgq : wr.heap[gp]? = _ := (HD.out.block _ hgs).trans HG.out
                        have k0 := cell_of_row _ _ 0 _ _ _ hgq
                        simp only [List.getElem?_toArray, List.getElem?_cons_zero] at k0
                        have hgw : gp < wr.heap.size := Nat.lt_of_lt_of_le hgs HD.out.size
                        have hgne : gp ≠ wr.heap.size := by omega
                        have hgne2 : wr.heap.size ≠ gp := by omega
                        have ka := cell_of_row _ _ 0 _ _ _ ((Below.heap_alloc wr (.cells #[.slice e1 e2 e3, .int .i64 x2] 51) gp hgw).trans hgq)
                        simp only [List.getElem?_toArray, List.getElem?_cons_zero] at ka
                        have SS := Lib.hid (fun wz (hz : Below wr.heap.size wr wz) => row_Same (.slice f1 f2 f3) (.slice e1 e2 e3) r r2 wz ((HRE.out.later HD.out (Nat.le_refl _)).later hz (Nat.le_refl _)) (re2.later hz (Nat.le_refl _)))
                        have hb2 := (Below.refl wr.heap.size wr).alloc (Nat.le_refl _) (.cells #[.slice e1 e2 e3, .int .i64 x2] 51)
                        have HG2 := Lib.hid (heap_alloc_new wr (.cells #[.slice e1 e2 e3, .int .i64 x2] 51))
                        have HB2 := Lib.hid hb2
                        clear hpg hja hst hgq re2 hb2
                        go_wp2_with fail
                        refine (SS.out _ HB2.out).mono ?_
                        rintro e w9 ⟨rfl, hb⟩
                        have hg9 : w9.heap[wr.heap.size]? = _ := (hb.block _ (by simp)).trans HG2.out
                        have k1 := cell_of_row _ _ 1 _ _ _ hg9
                        simp only [List.getElem?_toArray, List.getElem?_cons_zero, List.getElem?_cons_succ] at k1
                        replace HD := Lib.hid (HD.out.trans ((HB2.out.trans (hb.mono HB2.out.size)).mono HD.out.size))
                        clear hb hg9 hi2 d0 k0 ka hgne hgne2 hgw HB2 HG2 SS
                        by_cases hr : r = r2
                        · subst hr
                          have HS2 := Lib.hid (show Z.sumW (a.take (j + 1)) r = Z.sumW (a.take j) r + x2 from by rw [HST.out, if_pos rfl])
                          rw [decide_eq_true rfl]
                          clear HST
                          go_wp2
                          go_roundw
                          case rel =>
                            refine ⟨j + 1, by omega, by go_num, ?_, HD⟩
                            rw [HS2.out, u64_sum]
                          case measure => simp [intOf]; omega
                        · have HS2 := Lib.hid (show Z.sumW (a.take (j + 1)) r = Z.sumW (a.take j) r from by rw [HST.out, if_neg (fun h => hr h.symm)]; omega)
                          rw [decide_eq_false hr]
                          clear HST hr
                          go_wp2
                          go_roundw
                          case rel => exact ⟨j + 1, by omega, by go_num, by rw [HS2.out], HD⟩
                          case measure => simp [intOf]; omega
                      · obtain rfl : j = l := by omega
                        have et : a.take j = a := List.take_of_length_le (by rw [← HLN.out]; exact Nat.le_refl _)
                        rw [et]
                        obtain ⟨T, hT⟩ : ∃ T, T = Z.sumW a r := ⟨_, rfl⟩
                        rw [← hT]
                        have hi64 : i64 T := by rw [hT, ← SA.out]; exact ZA.out.w64 r
                        have hwg : wgt cs A r = T := by
                          unfold wgt
                          rw [if_neg (by rintro (h9 | h9); exact h9 ZA.out.2; exact h9 HV.out.1), SA.out, hT]
                        have hcv := i64_u64 hi64
                        have qT : (T != T) = false := by simp
                        have hgq : wr.heap[gp]? = _ := (HD.out.block _ hgs).trans HG.out
                        have k0 := cell_of_row _ _ 0 _ _ _ hgq
                        simp only [List.getElem?_toArray, List.getElem?_cons_zero] at k0
                        have hCD := HC.out.trans (HD.out.mono HC.out.size)
                        have hwt := K.out.weight wr va (.slice f1 f2 f3) A r (HBW.out.trans (hCD.mono hszW)) (FA.out.later hCD (Nat.le_refl _)) (HRE.out.later HD.out (Nat.le_refl _)) ZA.out.1 HV.out.2
                        rw [hwg] at hwt
                        have HWT := Lib.hid hwt
                        have HCD := Lib.hid hCD
                        clear et hT hi64 hwg hgq hCD hwt HC HD HRA HRE HG hgs
                        go_wp2_with fail
                        refine HWT.out.mono ?_
                        rintro e w9 ⟨rfl, hb⟩
                        have HC9 := Lib.hid (HCD.out.trans (hb.mono HCD.out.size))
                        clear hb HCD HWT
                        go_wp2
                        go_roundw
                        case rel => exact ⟨k + 1, by omega, by go_num, HC9⟩
                        case measure => simp [intOf]; omega
                  · go_wp2
                    go_ret
                    exact ⟨rfl, HBW.out.trans (HC.out.mono hszW)⟩
              · have hy0 : y ≠ 0 := fun h => hx0 (q1.2 h)
                have e0 : clcO cs a = [] := by unfold clcO; rw [if_neg (by rw [← HX.out]; exact hx0)]
                rw [e0] at FA FB
                have hla1 := FA.out.len
                have hlb1 := FB.out.len
                rw [show ((([] : List PairB).length : Nat) : Int) = 0 from rfl] at hla1 hlb1
                have qx : ((x : Int) != 0) = true := by rw [bne_iff_ne]; omega
                have qx2 : ((x : Int) == 0) = false := by rw [beq_eq_false_iff_ne]; omega
                have qy2 : ((y : Int) == 0) = false := by rw [beq_eq_false_iff_ne]; omega
                clear e0 q1 hx0 hy0
                go_wp2
                go_ret
                exact ⟨rfl, HB.out⟩
  · go_wp2_with fail
    refine (K.out.alive _ HB.out).mono ?_
    rintro e w4 ⟨rfl, hb⟩
    replace HB := Lib.hid (HB.out.trans (hb.mono HB.out.size))
    clear hb
    go_wp2
    go_ret
    exact ⟨rfl, HB.out⟩

end Go.Proofs.YtfpidkcdgebnpaaGreatDoor
