/- -/
import Derived.Test.YtmbpdpcinhhclaaGreatDoorKTrcP
import Derived.Test.YtmbpdpcinhhclaaGreatDoorKEntR
import Derived.Deep.QuietTactic
import Derived.BigQuiet
import Derived.Test.YtmbpdpcinhhclaaGreatDoorKSchema
import Derived.Test.YtmbpdpcinhhclaaGreatDoorKSchW
import Derived.Test.YtmbpdpcinhhclaaGreatDoorKFrame
import Derived.Test.YtmbpdpcinhhclaaGreatDoorKAppFull
import Derived.Deep.RegionHeld3
import Derived.Test.YtmbpdpcinhhclaaGreatDoorKZDefs
set_option linter.unusedVariables false
set_option linter.unusedSimpArgs false
set_option maxRecDepth 1000000
namespace Go.Proofs.YtmbpdpcinhhclaaGreatDoor
open Go.RowKit Go.Shelf

end Go.Proofs.YtmbpdpcinhhclaaGreatDoor


/- -/
namespace Go.Proofs.YtmbpdpcinhhclaaGreatDoor
open Go.RowKit Go.Shelf

def EnO13 (w : World) (r : List UInt8 × Int × List PairB × Nat × Nat) (e : Ending) (w' : World) : Prop :=
  ∃ ov, e = .returned (.tuple #[ov, .int .i64 (r.2.2.2.1 : Nat), .int .i64 (r.2.2.2.2 : Nat)]) ∧ Own w' w.heap.size ov r.1 ∧ Below w.heap.size w w'
def VwO13 (w : World) (r : List UInt8 × Int × List PairB × Nat × Nat) (e : Ending) (w' : World) : Prop :=
  ∃ vv, e = .returned (.tuple #[.int .i64 r.2.1, vv, .int .i64 (r.2.2.2.2 : Nat)]) ∧ RdP w' vv r.2.2.1 ∧ Below w.heap.size w w'

end Go.Proofs.YtmbpdpcinhhclaaGreatDoor


/- -/
namespace Go.Proofs.YtmbpdpcinhhclaaGreatDoor
open Go.RowKit Go.Shelf

def SaO13 (w : World) (P : Prop) (e : Ending) (w' : World) : Prop := ∃ b : Bool, e = .returned (.bool b) ∧ (b = true ↔ P) ∧ Below w.heap.size w w'
end Go.Proofs.YtmbpdpcinhhclaaGreatDoor


/- -/
namespace Go.Proofs.YtmbpdpcinhhclaaGreatDoor
open Go.RowKit Go.Shelf

def sum13 (es : List EntB) : Nat := (es.map fun x => x.2.2.length).sum
def flat13 (es : List EntB) : List PairB := es.flatMap fun x => x.2.2
theorem sum13_snoc {es : List EntB} {k : Nat} (h : k < es.length) : sum13 (es.take (k + 1)) = sum13 (es.take k) + (es.getD k default).2.2.length := by
  rw [take_succD h default]; unfold sum13; rw [List.map_append, List.sum_append]; simp
theorem flat13_snoc {es : List EntB} {k : Nat} (h : k < es.length) : flat13 (es.take (k + 1)) = flat13 (es.take k) ++ (es.getD k default).2.2 := by
  rw [take_succD h default]; unfold flat13; rw [List.flatMap_append]; simp
theorem flat13_len : ∀ es : List EntB, (flat13 es).length = sum13 es
  | [] => rfl
  | x :: t => by
    have := flat13_len t
    unfold flat13 sum13 at this ⊢
    rw [List.flatMap_cons, List.length_append, this, List.map_cons, List.sum_cons]
theorem sum13_take_le (es : List EntB) (k : Nat) : sum13 (es.take k) ≤ sum13 es := by
  have h := List.take_append_drop k es
  have : sum13 es = sum13 (es.take k) + sum13 (es.drop k) := by
    unfold sum13
    rw [← List.sum_append, ← List.map_append, h]
  omega
def few13 (cs : List ColB) (es : List EntB) : Prop := es.length ≤ 30 ∧ cs.length ≤ 30 ∧ sum13 es ≤ 200 ∧ fewG (flat13 es)
def GrO13 (w : World) (P : Prop) (e : Ending) (w' : World) : Prop := ∃ x : Int, e = .returned (.int .i64 x) ∧ (x = 0 ∨ x = 1) ∧ (x = 0 → P) ∧ Below w.heap.size w w'

theorem great_one13 (pv : Value) (ps : List PairB) (w : World) (h : RdP w pv ps) :
    Calls Tryz.prog 32 #[.slice (some ⟨w.heap.size, 0, none⟩) 1 1] (w.alloc (.cells #[pv] 34)) (GrO13 (w.alloc (.cells #[pv] 34)) (fewG ps)) := by
  have hb := (Below.refl w.heap.size w).alloc (Nat.le_refl _) (.cells #[pv] 34)
  refine (law08_greatG (.slice (some ⟨w.heap.size, 0, none⟩) 1 1) [pv] [ps] _ (rdPs_block (z := (0, 0)) (heap_alloc_new _ _) (by simp)) (by simp) rfl (fun i hi wz hz => ?_)).mono ?_
  · obtain rfl : i = 0 := by simpa using hi
    exact (h.later hb (Nat.le_refl _)).later hz (Nat.le_refl _)
  · rintro e w' ⟨x, he, hx, hf, hb'⟩
    exact ⟨x, he, hx, fun h0 => by simpa using hf h0, hb'⟩

set_option maxHeartbeats 8000000 in
theorem law13_great (v : Value) (cs : List ColB) (es : List EntB) (w : World) (hT : RdT13 w v cs es) :
    Calls Tryz.prog 13 #[v] w (GrO13 w (few13 cs es)) := by
  obtain ⟨sv, ev, rfl, hR, hZ⟩ := hT
  obtain ⟨ae, ne, ce, rfl⟩ := hZ.lit
  obtain ⟨ac, nc, cc, rfl⟩ := hR.lit12
  have hlen := hZ.len
  have hsm := hZ.small
  have hclen := hR.len
  have hcsm := hR.small
  have HZ := Lib.hid (fun wz (hz : Below w.heap.size w wz) => hZ.later hz (Nat.le_refl _))
  obtain ⟨n, hn⟩ : ∃ n, n = es.length := ⟨_, rfl⟩
  rw [← hn] at hlen hsm
  have HN := Lib.hid hn
  obtain ⟨N1, N2⟩ := new_one12 w (.cells #[.slice ac nc cc, .slice ae ne ce] 25)
  have HX0 := Lib.hid (show Tbox (w.alloc (.cells #[.slice ac nc cc, .slice ae ne ce] 25)) w.heap.size (.slice ac nc cc) (.slice ae ne ce) from N1)
  have HB0 := Lib.hid N2
  clear hR hZ hn N1 N2
  go_enter Tryz.func13, Tryz.ntmps13
  have hx9 := HX0.out.cells
  obtain ⟨c0, c1⟩ := hx9
  go_wp2
  go_loopw [3, 12] (fun a i wr => ∃ (k : Nat) (x : Int), k ≤ n ∧ i = .int .i64 k ∧ a = .int .i64 x ∧ Hid (n ≤ 30 → (sum13 (es.take k) : Int) ≤ x ∧ x ≤ (sum13 (es.take k) : Int) + (k : Int)) ∧ Hid (Tbox wr w.heap.size (.slice ac nc cc) (.slice ae ne ce)) ∧ Hid (Below w.heap.size w wr)) (fun _ i _ => n - (intOf i).toNat)
  case atStart => exact ⟨0, 0, by omega, rfl, rfl, Lib.hid (fun _ => by simp [sum13]), HX0, HB0⟩
  case round =>
    clear HX0 HB0 c0 c1
    obtain ⟨k, x, hk, rfl, rfl, HS, HX, HB⟩ := hrel
    by_cases hlt : k < n
    · have hkn : k < es.length := by rw [← HN.out]; exact hlt
      obtain ⟨b9, o9, pv, hidx, e0, e1, e2, hpv, hbl⟩ := (HZ.out wr HB.out).get hkn
      have HSN := Lib.hid (sum13_snoc hkn)
      have HPS := Lib.hid (show ∀ j, j < es.length → (es.getD j default).2.2.length ≤ 140737488351232 from fun j hj => by
        obtain ⟨_, _, _, _, _, _, _, h, _⟩ := (HZ.out wr HB.out).get hj
        exact h.small)
      have HSB := Lib.hid (show n ≤ 30 → sum13 (es.take k) ≤ k * 140737488351232 from fun hn => by
        have key : ∀ j, j ≤ k → sum13 (es.take j) ≤ j * 140737488351232 := by
          intro j
          induction j with
          | zero => intro _; simp [sum13]
          | succ j ih =>
            intro hj
            have h1 := ih (by omega)
            have h2 := HPS.out j (by omega)
            rw [sum13_snoc (by omega)]
            omega
        exact key k (Nat.le_refl _))
      obtain ⟨⟨kd, s2, ps⟩, hx⟩ : ∃ x, x = es.getD k default := ⟨_, rfl⟩
      rw [← hx] at e0 e1 hpv HSN
      dsimp only at e0 e1 hpv HSN
      obtain ⟨ap, np, cp, rfl⟩ := hpv.lit12
      have hlp := hpv.len
      have hps := hpv.small
      obtain ⟨m, hm⟩ : ∃ m, m = ps.length := ⟨_, rfl⟩
      rw [← hm] at hlp hps HSN
      obtain ⟨w7, hw7⟩ : ∃ w7, w7 = wr.alloc (.cells #[.int .i64 kd, .int .i64 s2, .slice ap np cp] 71) := ⟨_, rfl⟩
      have hbb := (Below.refl wr.heap.size wr).alloc (Nat.le_refl _) (.cells #[.int .i64 kd, .int .i64 s2, .slice ap np cp] 71)
      have hg7 := heap_alloc_new wr (.cells #[.int .i64 kd, .int .i64 s2, .slice ap np cp] 71)
      rw [← hw7] at hbb hg7
      have HB7 := Lib.hid (HB.out.trans (hbb.mono HB.out.size)).drew
      have hp7 := (hpv.later hbb (Nat.le_refl _)).drew
      have HX7 := Lib.hid (show Tbox w7.drew w.heap.size (.slice ac nc cc) (.slice ae ne ce) from HX.out.later hbb.drew)
      have hsz7 : w7.drew.heap.size = wr.heap.size + 1 := by rw [hw7]; simp
      have GG := great_one13 (.slice ap np cp) ps w7.drew hp7
      rw [hsz7] at GG
      have hA7 : Below w7.drew.heap.size w7.drew (w7.drew.alloc (.cells #[.slice ap np cp] 34)) := (Below.refl _ _).alloc (Nat.le_refl _) _
      have HX8 := Lib.hid (fun wz (hz : Below w7.drew.heap.size w7.drew wz) => HX7.out.later hz)
      have HB8 := Lib.hid (fun wz (hz : Below w7.drew.heap.size w7.drew wz) => HB7.out.trans (hz.mono HB7.out.size))
      have hW7 := Below.refl w7.drew.heap.size w7.drew
      have hg7' : (w7.drew).heap[wr.heap.size]? = _ := hg7
      have s0 := fun x : Ord.GW w7.drew => keep_cell x.grew (cell_of_row _ _ 2 _ _ _ hg7')
      simp at s0
      clear hg7 hg7' hbb hp7 hpv hx hm HPS HX HB hkn hsz7 HB7 HX7
      subst hw7
      have GG := Lib.hid GG
      go_wp2_with fail
      refine Ord.wp_region_ord [(0, false), (1, false), (2, false), (5, false), (6, false), (7, false), (3, true), (4, true), (8, false), (9, false), (10, false)] (by kernel_rfl) rfl (by kernel_rfl) (by kernel_rfl) (fun _ _ _ d _ h => by cases d <;> exact h) ?_
      refine Ord.ord_still rfl rfl (by kernel_rfl) (fun K hK => ?_)
      go_big_quiet_op
      refine hK _ ?_; clear hK K
      refine Ord.ord_still rfl rfl (by kernel_rfl) (fun K hK => ?_)
      go_big_quiet_op
      refine hK _ ?_; clear hK K
      refine Ord.ord_still rfl rfl (by kernel_rfl) (fun K hK => ?_)
      go_big_quiet_op
      refine hK _ ?_; clear hK K
      refine Ord.ord_still rfl rfl (by kernel_rfl) (fun K hK => ?_)
      go_big_quiet_op
      refine hK _ ?_; clear hK K
      refine Ord.ord_still rfl rfl (by kernel_rfl) (fun K hK => ?_)
      go_big_quiet_op
      refine hK _ ?_; clear hK K
      refine Ord.ord_still rfl rfl (by kernel_rfl) (fun K hK => ?_)
      go_big_quiet_op
      refine hK _ ?_; clear hK K
      refine Ord.ord_loud rfl (by kernel_rfl) (fun K hK => ?_)
      go_big_op
      refine hK _ _ hA7 ?_; clear hK K
      refine Ord.ord_loud rfl (by kernel_rfl) (fun K hK => ?_)
      go_big_op
      refine GG.out.mono ?_
      rintro e w8 ⟨y, rfl, hy, _, hb⟩
      have hA8 := hA7.trans (hb.mono hA7.size)
      refine hK _ _ hb ?_
      have HXn := Lib.hid (HX8.out _ hA8)
      have HBn := Lib.hid (HB8.out _ hA8)
      clear hK K hb hA7 hA8 GG
      refine Ord.ord_still rfl rfl (by kernel_rfl) (fun K hK => ?_)
      go_big_quiet_op
      refine hK _ ?_; clear hK K
      refine Ord.ord_still rfl rfl (by kernel_rfl) (fun K hK => ?_)
      go_big_quiet_op
      refine hK _ ?_; clear hK K
      refine Ord.ord_still rfl rfl (by kernel_rfl) (fun K hK => ?_)
      go_big_quiet_op
      refine hK _ ?_; clear hK K
      refine Ord.ord_nil ?_
      have HS2 := Lib.hid (show n ≤ 30 → (sum13 (es.take (k + 1)) : Int) ≤ wrap64 (x + (y + (m : Int))) ∧ wrap64 (x + (y + (m : Int))) ≤ (sum13 (es.take (k + 1)) : Int) + ((k + 1 : Nat) : Int) from fun hn => by
        obtain ⟨h1, h2⟩ := HS.out hn
        have h3 := HSB.out hn
        have h4 : sum13 (es.take (k + 1)) = sum13 (es.take k) + m := HSN.out
        have w2 : wrap64 (x + (y + (m : Int))) = x + (y + (m : Int)) := w64_inG ⟨by omega, by omega⟩
        rw [w2, h4]
        push_cast
        omega)
      clear hy
      go_wp2
      go_roundw
      case rel => exact ⟨k + 1, _, by omega, by go_num, rfl, HS2, HXn, HBn⟩
      case measure => simp [intOf]; omega
    · obtain rfl : k = n := by omega
      have hsl : sum13 (es.take k) = sum13 es := by rw [List.take_of_length_le (by rw [HN.out]; exact Nat.le_refl _)]
      rw [hsl] at HS
      have hx9 := HX.out.cells
      obtain ⟨c0, c1⟩ := hx9
      clear hlt hsl
      by_cases hx2 : 200 < x
      · have d1 : decide ((200 : Int) < x) = true := decide_eq_true hx2
        go_wp2
        go_ret
        exact ⟨1, rfl, .inr rfl, fun h => absurd h (by decide), HB.out⟩
      · have d1 : decide ((200 : Int) < x) = false := decide_eq_false hx2
        by_cases hn3 : 30 < k
        · have d2 : decide ((30 : Int) < (k : Int)) = true := decide_eq_true (by omega)
          go_wp2
          go_ret
          exact ⟨1, rfl, .inr rfl, fun h => absurd h (by decide), HB.out⟩
        · have d2 : decide ((30 : Int) < (k : Int)) = false := decide_eq_false (by omega)
          by_cases hc3 : 30 < cs.length
          · have d3 : decide ((30 : Int) < (cs.length : Int)) = true := decide_eq_true (by omega)
            go_wp2
            go_ret
            exact ⟨1, rfl, .inr rfl, fun h => absurd h (by decide), HB.out⟩
          · have d3 : decide ((30 : Int) < (cs.length : Int)) = false := decide_eq_false (by omega)
            have HS200 := Lib.hid (show sum13 es ≤ 200 from by have := HS.out (by omega); omega)
            have hn30 : k ≤ 30 := by omega
            have hc30 := Lib.hid (show cs.length ≤ 30 from by omega)
            clear hx2 hn3 hc3 HS
            go_wp2
            go_loopw [6, 44] (fun a i wr => ∃ (j : Nat) (av : Value), av = a ∧ j ≤ k ∧ i = .int .i64 j ∧ Hid (OwnP wr w.heap.size av (flat13 (es.take j))) ∧ Hid (Tbox wr w.heap.size (.slice ac nc cc) (.slice ae ne ce)) ∧ Hid (Below w.heap.size w wr)) (fun _ i _ => k - (intOf i).toNat)
            case atStart => exact ⟨0, _, rfl, by omega, rfl, Lib.hid (OwnP.nil _ _), HX, HB⟩
            case round =>
              clear HX HB c0 c1
              obtain ⟨j, av, rfl, hj, rfl, HA, HX, HB⟩ := hrel
              by_cases hjl : j < k
              · have hjn : j < es.length := by rw [← HN.out]; exact hjl
                obtain ⟨b9, o9, pv, hidx, e0, e1, e2, hpv, hbl⟩ := (HZ.out w (Below.refl _ _)).get hjn
                replace e0 := keep_cell HB.out e0
                replace e1 := keep_cell HB.out e1
                replace e2 := keep_cell HB.out e2
                have hfs := flat13_snoc hjn
                have hfl : (flat13 (es.take (j + 1))).length ≤ 200 := by
                  rw [flat13_len]
                  exact Nat.le_trans (sum13_take_le es (j + 1)) HS200.out
                obtain ⟨⟨kd, s2, ps⟩, hx⟩ : ∃ x, x = es.getD j default := ⟨_, rfl⟩
                rw [← hx] at e0 e1 hpv hfs
                dsimp only at e0 e1 hpv hfs
                rw [hfs, List.length_append] at hfl
                have HFS := Lib.hid hfs
                have HFL := Lib.hid hfl
                obtain ⟨ap, np, cp, rfl⟩ := hpv.lit12
                obtain ⟨us, hu1, hu2, hu3⟩ := hpv.app
                obtain ⟨w7, hw7⟩ : ∃ w7, w7 = wr.alloc (.cells #[.int .i64 kd, .int .i64 s2, .slice ap np cp] 71) := ⟨_, rfl⟩
                have hbb := (Below.refl wr.heap.size wr).alloc (Nat.le_refl _) (.cells #[.int .i64 kd, .int .i64 s2, .slice ap np cp] 71)
                have hg7 := heap_alloc_new wr (.cells #[.int .i64 kd, .int .i64 s2, .slice ap np cp] 71)
                have ha7 := HA.out.alloc (.cells #[.int .i64 kd, .int .i64 s2, .slice ap np cp] 71)
                rw [← hw7] at hbb hg7 ha7
                have hb7 := HB.out.trans (hbb.mono HB.out.size)
                have hx7 := HX.out.later hbb
                obtain ⟨hu4, hu5⟩ := hu3 w7 hb7
                have hu6 := hu5 av (fun g hg => (HA.out.lt hg).1)
                have q2 := cell_of_row _ _ 2 _ _ _ hg7
                simp at q2
                have HX7 := Lib.hid hx7
                clear hx hfs hfl hu3 hu5 hg7 hbb hpv hx7 HB HX hjn
                subst hw7
                go_wp2_with (with_reducible refine wplP_appendAll w.heap.size av ?hs ha7 (.slice ap np cp) ?hx us hu4 hu6 ?hn ?hbase w.heap.size w hb7 (Nat.le_refl _) ?_)
                case hs => rfl
                case hx => rfl
                case hn => have := HFL.out; rw [hu2]; omega
                case hbase => exact hb7.size
                intro v8 w8 ho8 hb8 hg8 _
                have HA8 := Lib.hid (show OwnP w8 w.heap.size v8 (flat13 (es.take (j + 1))) from by rw [HFS.out, ← hu1]; exact ho8)
                have HB8 := Lib.hid hb8
                have HX8 := Lib.hid (show Tbox w8 w.heap.size (.slice ac nc cc) (.slice ae ne ce) from by
                  obtain ⟨ts, _, hG, _⟩ := ha7
                  exact HX7.out.grown hG (by decide) hg8)
                clear ho8 hb8 hg8 ha7 hb7 hu4 hu6 hu1 hu2 HX7 q2 e0 e1 e2
                go_wp2
                go_roundw
                case rel => exact ⟨j + 1, _, rfl, by omega, by go_num, HA8, HX8, HB8⟩
                case measure => simp [intOf]; omega
              · obtain rfl : j = k := by omega
                have ha : OwnP wr w.heap.size av (flat13 es) := by
                  have := HA.out
                  rwa [List.take_of_length_le (by rw [HN.out]; exact Nat.le_refl _)] at this
                have hr := ha.rd (by rw [flat13_len]; have := HS200.out; omega)
                obtain ⟨ar, nr, cr, rfl⟩ := hr.lit12
                have GG := Lib.hid (great_one13 (.slice ar nr cr) (flat13 es) wr hr)
                have HB9 := Lib.hid (HB.out.alloc HB.out.size (.cells #[.slice ar nr cr] 34))
                have hn30' : es.length ≤ 30 := by rw [← HN.out]; exact hn30
                clear hjl ha hr HA
                go_wp2_with fail
                refine GG.out.mono ?_
                rintro e w8 ⟨y, rfl, hy, hf, hb⟩
                have HF := Lib.hid hf
                have HB10 := Lib.hid (HB9.out.trans (hb.mono HB9.out.size))
                have HY := Lib.hid hy
                clear hf hb hy GG
                go_wp2
                go_ret
                exact ⟨y, rfl, HY.out, fun h => ⟨hn30', hc30.out, HS200.out, HF.out h⟩, HB10.out⟩

end Go.Proofs.YtmbpdpcinhhclaaGreatDoor


/- -/
namespace Go.Proofs.YtmbpdpcinhhclaaGreatDoor
open Go.RowKit Go.Shelf

def DcO13 (w : World) (b : List UInt8) (e : Ending) (w' : World) : Prop :=
  ∃ v, e = .returned (.tuple #[v, .int .i64 ((trD b).2.2.2.1 : Nat), .int .i64 ((trD b).2.2.2.2 : Nat)]) ∧ RdT13 w' v (trD b).1 (trD b).2.1 ∧ CS (trD b).1 ∧ Below w.heap.size w w'
def curs13 (cs : List ColB) (ms : List (Int × Nat)) : List CurB := ms.map fun m => (m.1, (m.2 : Int), ((Crc.sum (wrS (colsL cs)) : Nat) : Int))
def MkO13 (w : World) (b : List UInt8) (e : Ending) (w' : World) : Prop :=
  ∃ v, e = .returned (.tuple #[v, .int .i64 ((trD b).2.2.2.1 : Nat), .int .i64 ((trD b).2.2.2.2 : Nat)]) ∧ RdG cursorE w' v ((curs13 (trD b).1 (trD b).2.2.1).map cuV) ∧ Below w.heap.size w w'

structure TrcK (w : World) : Prop where
  alive : ∀ wz, Below w.heap.size w wz → Calls Tryz.prog 12 #[] wz fun e w' => e = .returned (.bool true) ∧ Below wz.heap.size wz w'
  encode : ∀ wz v cs es, Below w.heap.size w wz → RdT13 wz v cs es → CS cs → (∀ x ∈ es, EnO x) → Calls Tryz.prog 14 #[v] wz (EnO13 wz (trE cs es))
  view : ∀ wz v cs es, Below w.heap.size w wz → RdT13 wz v cs es → CS cs → (∀ x ∈ es, EnO x) → Calls Tryz.prog 16 #[v] wz (VwO13 wz (trE cs es))
  head : ∀ wz v cs, Below w.heap.size w wz → RdC wz v cs → CS cs → Calls Tryz.prog 18 #[v] wz (RetW wz (hdW (colsL cs)))
  decode : ∀ wz v b, Below w.heap.size w wz → Rd wz v b → Calls Tryz.prog 21 #[v] wz (DcO13 wz b)
  marks : ∀ wz v b, Below w.heap.size w wz → Rd wz v b → Calls Tryz.prog 23 #[v] wz (MkO13 wz b)
  same : ∀ wz v1 v2 cs ds es fs, Below w.heap.size w wz → RdT13 wz v1 cs es → RdT13 wz v2 ds fs → Calls Tryz.prog 26 #[v1, v2] wz (SaO13 wz (cs = ds ∧ es = fs))

theorem trE_small {cs : List ColB} {es : List EntB} (h : es.length ≤ 4096) : (trE cs es).1.length ≤ 4400000000 := by
  have h1 := trW_bytes_le (cs := cs) es 0 0 []
  have h2 : es.length * 1048591 ≤ 4096 * 1048591 := Nat.mul_le_mul_right _ h
  unfold trE
  by_cases h0 : errS (colsL cs) = 0
  · have h3 := hdB_small h0
    rw [if_neg (fun h => h h0)]
    split
    · omega
    · dsimp only; rw [List.length_append]; omega
  · rw [if_pos h0]; simp
end Go.Proofs.YtmbpdpcinhhclaaGreatDoor

