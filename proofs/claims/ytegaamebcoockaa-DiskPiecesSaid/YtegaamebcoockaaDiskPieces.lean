/-
  DiskPieces: bytes that are appended in pieces are the same as at once. For every input.
-/
import Derived.Test.YtegaamebcoockaaDskAlive
import Derived.Test.YtegaamebcoockaaDskRef
set_option linter.unusedVariables false
set_option linter.unusedSimpArgs false
set_option maxRecDepth 1000000
namespace Go.Proofs.Ytegaamebcoockaa
open Go.RowKit

theorem take15 (b : List UInt8) (p q : Nat) : b.take p ++ (b.drop p).take q = b.take (p + q) := by rw [List.take_add]

set_option maxHeartbeats 16000000 in
theorem diskPieces_walk (va : Value) (b : List UInt8) (vb : Value) (cs : List UInt8) (w : World) (ha : Rd w va b) (hb : Rd w vb cs) :
    Calls Try.prog 7 #[va, vb] w fun e w' => e = .returned (.bool true) ∧ Below w.heap.size w w' := by
  obtain ⟨aa, ac, rfl, _⟩ := ha.shape
  obtain ⟨ba, bc, rfl, _⟩ := hb.shape
  have hal := ha.len
  have hbl := hb.len
  have hasm := ha.small
  have hbsm := hb.small
  have HA := Lib.hid (fun wz (hz : Below w.heap.size w wz) => ha.later hz (Nat.le_refl _))
  have HB := Lib.hid (fun wz (hz : Below w.heap.size w wz) => hb.later hz (Nat.le_refl _))
  clear ha hb
  obtain ⟨n, hn⟩ : ∃ n, n = cs.length := ⟨_, rfl⟩
  rw [← hn] at hbl hbsm ⊢
  have HN := Lib.hid hn
  clear hn
  go_enter Try.func7, Try.ntmps7
  go_wp2_with fail
  refine (law15_alive w).mono ?_
  rintro e w1 ⟨rfl, hb1⟩
  have HB1 := Lib.hid hb1
  clear hb1
  by_cases hbig : 1000 < b.length
  · have d1 : decide ((b.length : Int) > 1000) = true := decide_eq_true (by omega)
    go_wp2_with fail
    refine (law15_alive w1).mono ?_
    rintro e w2 ⟨rfl, hb2⟩
    have HB2 := Lib.hid (HB1.out.trans (hb2.mono HB1.out.size))
    clear hb2
    go_wp2
    go_ret
    exact ⟨rfl, HB2.out⟩
  have d1 : decide ((b.length : Int) > 1000) = false := decide_eq_false (by omega)
  by_cases hbig2 : 100 < n
  · have d2 : decide ((n : Int) > 100) = true := decide_eq_true (by omega)
    go_wp2_with fail
    refine (law15_alive w1).mono ?_
    rintro e w2 ⟨rfl, hb2⟩
    have HB2 := Lib.hid (HB1.out.trans (hb2.mono HB1.out.size))
    clear hb2
    go_wp2
    go_ret
    exact ⟨rfl, HB2.out⟩
  have d2 : decide ((n : Int) > 100) = false := decide_eq_false (by omega)
  have HL := Lib.hid (show b.length ≤ 1000 ∧ n ≤ 100 from by omega)
  have NW := Lib.hid (disk_New _ [] w1 (Rd.nil w1) (by decide))
  clear hbig hbig2
  go_wp2_with fail
  refine NW.out.mono ?_
  rintro e w2 ⟨g, v, rfl, hd, hb2⟩
  have HB2 := Lib.hid (HB1.out.trans (hb2.mono HB1.out.size))
  have HD := Lib.hid (hd.base_le15 HB1.out.size)
  clear hb2 hd NW HB1
  go_wp2
  go_loopw [6, 29] (fun r i wr => ∃ (k p : Nat) (vd : Value) (ra : Option Addr) (rc : Nat), k ≤ n ∧ p ≤ b.length ∧ i = .int .i64 k ∧ r = .slice ra (b.length - p) rc ∧ Hid (∀ wz, Below w.heap.size w wz → Rd wz (.slice ra (b.length - p) rc) (b.drop p)) ∧ Hid (Dsk wr w.heap.size g vd (b.take p) 0 0) ∧ Hid (Below w.heap.size w wr)) (fun _ i _ => n - (intOf i).toNat)
  case atStart => exact ⟨0, 0, v, aa, ac, by omega, by omega, rfl, rfl, Lib.hid (fun wz hz => HA.out wz hz), HD, HB2⟩
  case round =>
    clear HD HB2
    obtain ⟨k, p, vd, ra, rc, hk, hp, rfl, rfl, HR, HD, HBW⟩ := hrel
    by_cases hlt : k < n
    · have hkc : k < cs.length := by rw [← HN.out]; exact hlt
      have hc := HB.out _ HBW.out
      have hidx := hc.idx k hkc
      have hcell := hc.cells k hkc
      rw [← HN.out] at hidx hcell
      have hlo := at8_lo cs k
      have hhi := at8_hi cs k
      obtain ⟨c, hcd⟩ : ∃ c : Nat, at8 cs k = (c : Int) := ⟨(at8 cs k).toNat, by omega⟩
      rw [hcd] at hcell hlo hhi
      have hr := HR.out _ HBW.out
      have hrl := hr.len
      have hdl : (b.drop p).length = b.length - p := List.length_drop
      rw [hdl] at hrl
      obtain ⟨m, hm⟩ : ∃ m, m = b.length - p := ⟨_, rfl⟩
      rw [← hm] at hrl hr hdl HR ⊢
      have hmb : m ≤ 1000 := by have := HL.out; omega
      obtain ⟨q, hq⟩ : ∃ q, q = c % (m + 1) := ⟨_, rfl⟩
      have hqm : q ≤ m := by have := Nat.mod_lt c (show 0 < m + 1 by omega); omega
      have hrem : Int.tmod (c : Int) ((m : Int) + 1) = (q : Int) := by rw [hq, Int.tmod_eq_emod_of_nonneg (by omega)]; push_cast; rfl
      obtain ⟨pv, hup, hpd⟩ := hr.upto q (by omega)
      obtain ⟨fv, hfr, hfd⟩ := hr.from q (by omega)
      obtain ⟨pa, pc, hpv, _⟩ := (hpd _ hr).shape
      obtain ⟨fa, fc, hfv, _⟩ := (hfd _ hr).shape
      have el : ((b.drop p).take q).length = q := by rw [List.length_take]; omega
      have fl : ((b.drop p).drop q).length = m - q := by rw [List.length_drop]; omega
      rw [el] at hpv
      rw [fl] at hfv
      subst hpv hfv
      have HP := Lib.hid (hpd _ hr)
      have HR2 := Lib.hid (fun wz (hz : Below w.heap.size w wz) => hfd wz (HR.out wz hz))
      have AP := Lib.hid (disk_Append w.heap.size g vd (b.take p) 0 0 _ _ wr HD.out HP.out (by rw [List.length_take]; have := HL.out; omega))
      have HQ := Lib.hid (And.intro hq (And.intro hm hqm))
      clear hkc hc hcd hr hdl hpd hfd el fl hq hm HP HR
      go_wp2_with fail
      refine AP.out.mono ?_
      rintro e w4 ⟨rfl, v4, hd, hO, _⟩
      have HB4 := Lib.hid (HBW.out.trans (HD.out.below hO))
      have HD4 := Lib.hid (show Dsk w4 w.heap.size g v4 (b.take (p + q)) 0 0 from by rw [← take15]; exact hd)
      clear hd hO AP HD HBW
      go_wp2
      go_roundw
      case rel => exact ⟨k + 1, p + q, v4, fa, fc, by omega, by have := HQ.out; omega, by go_num, by rw [show b.length - (p + q) = m - q from by have := HQ.out; omega], Lib.hid (fun wz hz => by rw [show b.length - (p + q) = m - q from by have := HQ.out; omega, ← List.drop_drop]; exact HR2.out wz hz), HD4, HB4⟩
      case measure => simp [intOf]; omega
    · obtain rfl : k = n := by omega
      have hr := HR.out _ HBW.out
      obtain ⟨m, hm⟩ : ∃ m, m = b.length - p := ⟨_, rfl⟩
      rw [← hm] at hr HR ⊢
      have AP := Lib.hid (disk_Append w.heap.size g vd (b.take p) 0 0 _ _ wr HD.out hr (by rw [List.length_take, List.length_drop]; have := HL.out; omega))
      clear hr HR hm
      go_wp2_with fail
      refine AP.out.mono ?_
      rintro e w4 ⟨rfl, v4, hd, hO, _⟩
      rw [List.take_append_drop] at hd
      have HB4 := Lib.hid (HBW.out.trans (HD.out.below hO))
      have HD4 := Lib.hid hd
      have HV4 := Lib.hid (show ∀ q, DskQ g v4 q → w.heap.size ≤ q ∧ q < w4.heap.size from fun q hq => HD4.out.q hq)
      have BY := Lib.hid (disk_Bytes _ _ _ _ _ _ _ (HD4.out.later (Below.refl _ _).drew))
      have hsb := fun x : OrdR.GW (Only (DskQ g v4)) w4.drew => (HA.out x.val (HB4.out.trans (((Only.refl (DskQ g v4) w4).drew.trans x.grew).toBelow (fun q hq => (HV4.out q hq).1) HB4.out.size))).str
      clear hd hO AP HD HBW
      go_wp2_with fail
      refine OrdR.wp_region_ord (R := Only (DskQ g v4)) (way15 _) [(0, false), (3, false), (4, false), (1, true), (2, false), (5, false), (6, false), (7, false), (8, true), (9, false), (10, false), (11, false), (12, false), (13, true), (14, false), (15, false), (16, false), (17, false), (19, false), (20, false), (18, true), (21, false), (22, false), (23, false)] (by kernel_rfl) rfl (by kernel_rfl) (by kernel_rfl) (fun _ _ _ d _ h => by cases d <;> exact h) ?_
      refine OrdR.ord_still rfl rfl (by kernel_rfl) (fun K hK => ?_)
      go_big_quiet_op
      refine hK _ ?_; clear hK K
      refine OrdR.ord_still rfl rfl (by kernel_rfl) (fun K hK => ?_)
      go_big_quiet_op
      refine hK _ ?_; clear hK K
      refine OrdR.ord_still rfl rfl (by kernel_rfl) (fun K hK => ?_)
      go_big_quiet_op
      refine hK _ ?_; clear hK K
      refine OrdR.ord_loud rfl (by kernel_rfl) (fun K hK => ?_)
      go_big_op
      refine BY.out.mono ?_
      rintro e w5 ⟨v5, rfl, ho, hb⟩
      refine hK _ _ (Only.later15 hb) ?_
      obtain ⟨a5, n5, rfl, _⟩ := ho.tor.lit
      have hb4 := (Below.refl w4.heap.size w4).drew.trans hb
      have HB5 := Lib.hid (HB4.out.trans (hb4.mono HB4.out.size))
      have hst := fun x : OrdR.GW (Only (DskQ g v4)) w5 => (((ho.off (by have := HL.out; omega) fun j h1 h2 => by have h3 := (HV4.out j h2).2; have h4 : w4.heap.size ≤ j := h1; omega).only x.grew fun j h => h).1).str
      have hsb5 := fun x : OrdR.GW (Only (DskQ g v4)) w5 => (HA.out x.val (HB5.out.trans (x.grew.toBelow (fun q hq => (HV4.out q hq).1) HB5.out.size))).str
      have HD5 := Lib.hid (HD4.out.later hb4)
      have SA := Lib.hid (disk_Safe _ _ _ _ _ _ _ HD5.out)
      have SY := Lib.hid (disk_Sync _ _ _ _ _ _ _ HD5.out)
      clear ho hb hb4 BY HB4 HD4 hsb
      clear hK K
      refine OrdR.ord_still rfl rfl (by kernel_rfl) (fun K hK => ?_)
      go_big_quiet_op
      refine hK _ ?_; clear hK K
      refine OrdR.ord_still rfl rfl (by kernel_rfl) (fun K hK => ?_)
      go_big_quiet_op
      refine hK _ ?_; clear hK K
      refine OrdR.ord_still rfl rfl (by kernel_rfl) (fun K hK => ?_)
      go_big_quiet_op
      refine hK _ ?_; clear hK K
      refine OrdR.ord_still rfl rfl (by kernel_rfl) (fun K hK => ?_)
      go_big_quiet_op
      refine hK _ ?_; clear hK K
      refine OrdR.ord_loud rfl (by kernel_rfl) (fun K hK => ?_)
      go_big_op
      refine SA.out.mono ?_
      rintro e wz ⟨rfl, hz⟩
      rw [hz]
      clear hz wz
      refine hK _ _ (Only.refl _ _) ?_
      clear SA
      clear hK K
      refine OrdR.ord_still rfl rfl (by kernel_rfl) (fun K hK => ?_)
      go_big_quiet_op
      refine hK _ ?_; clear hK K
      refine OrdR.ord_still rfl rfl (by kernel_rfl) (fun K hK => ?_)
      go_big_quiet_op
      refine hK _ ?_; clear hK K
      refine OrdR.ord_still rfl rfl (by kernel_rfl) (fun K hK => ?_)
      go_big_quiet_op
      refine hK _ ?_; clear hK K
      refine OrdR.ord_still rfl rfl (by kernel_rfl) (fun K hK => ?_)
      go_big_quiet_op
      refine hK _ ?_; clear hK K
      refine OrdR.ord_loud rfl (by kernel_rfl) (fun K hK => ?_)
      go_big_op
      refine SY.out.mono ?_
      rintro e w6 ⟨rfl, v6, hd, hO, _⟩
      refine hK _ _ hO ?_
      have HB6 := Lib.hid (HB5.out.trans (HD5.out.below hO))
      have SA := Lib.hid (disk_Safe _ _ _ _ _ _ _ hd)
      clear hd hO SY HB5 HD5
      clear hK K
      refine OrdR.ord_still rfl rfl (by kernel_rfl) (fun K hK => ?_)
      go_big_quiet_op
      refine hK _ ?_; clear hK K
      refine OrdR.ord_still rfl rfl (by kernel_rfl) (fun K hK => ?_)
      go_big_quiet_op
      refine hK _ ?_; clear hK K
      refine OrdR.ord_still rfl rfl (by kernel_rfl) (fun K hK => ?_)
      go_big_quiet_op
      refine hK _ ?_; clear hK K
      refine OrdR.ord_still rfl rfl (by kernel_rfl) (fun K hK => ?_)
      go_big_quiet_op
      refine hK _ ?_; clear hK K
      refine OrdR.ord_still rfl rfl (by kernel_rfl) (fun K hK => ?_)
      go_big_quiet_op
      refine hK _ ?_; clear hK K
      refine OrdR.ord_still rfl rfl (by kernel_rfl) (fun K hK => ?_)
      go_big_quiet_op
      refine hK _ ?_; clear hK K
      refine OrdR.ord_loud rfl (by kernel_rfl) (fun K hK => ?_)
      go_big_op
      refine SA.out.mono ?_
      rintro e wz ⟨rfl, hz⟩
      rw [hz]
      clear hz wz
      refine hK _ _ (Only.refl _ _) ?_
      clear SA
      clear hK K
      refine OrdR.ord_still rfl rfl (by kernel_rfl) (fun K hK => ?_)
      go_big_quiet_op
      refine hK _ ?_; clear hK K
      refine OrdR.ord_still rfl rfl (by kernel_rfl) (fun K hK => ?_)
      go_big_quiet_op
      refine hK _ ?_; clear hK K
      refine OrdR.ord_still rfl rfl (by kernel_rfl) (fun K hK => ?_)
      go_big_quiet_op
      refine hK _ ?_; clear hK K
      refine OrdR.ord_nil ?_
      go_wp2
      go_ret
      exact ⟨rfl, HB6.out⟩

end Go.Proofs.Ytegaamebcoockaa
