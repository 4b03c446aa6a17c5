/-
  DiskKeeps: a crash that keeps all, without junk, loses nothing; one that keeps none leaves what was safe; one more changes nothing then. For every input.
-/
import Derived.Test.YtegaamebcoockaaDskAlive
import Derived.Test.YtegaamebcoockaaDskRef
set_option linter.unusedVariables false
set_option linter.unusedSimpArgs false
set_option maxRecDepth 1000000
namespace Go.Proofs.Ytegaamebcoockaa
open Go.RowKit

set_option maxHeartbeats 16000000 in
theorem diskKeeps_walk (va : Value) (a : List UInt8) (vb : Value) (b : List UInt8) (w : World) (ha : Rd w va a) (hb : Rd w vb b) :
    Calls Try.prog 6 #[va, vb] w fun e w' => e = .returned (.bool true) ∧ Below w.heap.size w w' := by
  obtain ⟨aa, ac, rfl, _⟩ := ha.shape
  obtain ⟨ba, bc, rfl, _⟩ := hb.shape
  have hal := ha.len
  have hbl := hb.len
  have hasm := ha.small
  have hbsm := hb.small
  have HA := Lib.hid (fun wz (hz : Below w.heap.size w wz) => ha.later hz (Nat.le_refl _))
  have HB := Lib.hid (fun wz (hz : Below w.heap.size w wz) => hb.later hz (Nat.le_refl _))
  clear ha hb
  go_enter Try.func6, Try.ntmps6
  go_wp2_with fail
  refine (law15_alive w).mono ?_
  rintro e w1 ⟨rfl, hb1⟩
  have HB1 := Lib.hid hb1
  clear hb1
  by_cases hbig : 1000 < a.length
  · have d1 : decide ((a.length : Int) > 1000) = true := decide_eq_true (by omega)
    go_wp2_with fail
    refine (law15_alive w1).mono ?_
    rintro e w2 ⟨rfl, hb2⟩
    have HB2 := Lib.hid (HB1.out.trans (hb2.mono HB1.out.size))
    clear hb2
    go_wp2
    go_ret
    exact ⟨rfl, HB2.out⟩
  have d1 : decide ((a.length : Int) > 1000) = false := decide_eq_false (by omega)
  by_cases hbig2 : 1000 < b.length
  · have d2 : decide ((b.length : Int) > 1000) = true := decide_eq_true (by omega)
    go_wp2_with fail
    refine (law15_alive w1).mono ?_
    rintro e w2 ⟨rfl, hb2⟩
    have HB2 := Lib.hid (HB1.out.trans (hb2.mono HB1.out.size))
    clear hb2
    go_wp2
    go_ret
    exact ⟨rfl, HB2.out⟩
  have d2 : decide ((b.length : Int) > 1000) = false := decide_eq_false (by omega)
  have HL := Lib.hid (show a.length ≤ 1000 ∧ b.length ≤ 1000 from by omega)
  have NW := Lib.hid (fun wz (hz : Below w.heap.size w wz) => disk_New _ a wz (HA.out wz hz) (by have := HL.out; omega))
  clear hbig hbig2
  go_wp2_with fail
  refine (NW.out w1 HB1.out).mono ?_
  rintro e w2 ⟨g1, v1, rfl, hd1, hb2⟩
  have HB2 := Lib.hid (HB1.out.trans (hb2.mono HB1.out.size))
  have HD1 := Lib.hid hd1
  clear hb2 hd1
  go_wp2_with fail
  refine (NW.out w2 HB2.out).mono ?_
  rintro e w3 ⟨g2, v2, rfl, hd2, hb3⟩
  have HB3 := Lib.hid (HB2.out.trans (hb3.mono HB2.out.size))
  have hap : ∀ q, DskQ g1 v1 q → ¬ DskQ g2 v2 q := fun q h1 h2 => by have := (HD1.out.q h1).2; have := (hd2.q h2).1; omega
  have HD1 := Lib.hid ((HD1.out.later hb3).base_le15 HB1.out.size)
  have HD2 := Lib.hid (hd2.base_le15 HB2.out.size)
  have HAP := Lib.hid hap
  have AP := Lib.hid (disk_Append w.heap.size g1 v1 a a.length 0 _ b w3 HD1.out (HB.out w3 HB3.out) (by have := HL.out; omega))
  clear hb3 hd2 hap NW HB1 HB2
  go_wp2_with fail
  refine AP.out.mono ?_
  rintro e w4 ⟨rfl, v1', hd, hO, hp⟩
  have HB4 := Lib.hid (HB3.out.trans (HD1.out.below hO))
  have HAP4 := Lib.hid (apart15 HAP.out hp fun q hq => (HD2.out.q hq).2)
  have HD14 := Lib.hid hd
  have HD24 := Lib.hid (HD2.out.only hO fun q hq h => HAP.out q h hq)
  have AP := Lib.hid (disk_Append w.heap.size g2 v2 a a.length 0 _ b w4 HD24.out (HB.out w4 HB4.out) (by have := HL.out; omega))
  clear hd hO hp HB3 HD1 HD2 HAP
  go_wp2_with fail
  refine AP.out.mono ?_
  rintro e w5 ⟨rfl, v2', hd, hO, hp⟩
  have HB5 := Lib.hid (HB4.out.trans (HD24.out.below hO))
  have HAP5 := Lib.hid (apart15 (fun q h1 h2 => HAP4.out q h2 h1) hp fun q hq => (HD14.out.q hq).2)
  have HD25 := Lib.hid hd
  have HD15 := Lib.hid (HD14.out.only hO fun q hq h => HAP4.out q hq h)
  clear hd hO hp HB4 HD14 HD24 HAP4 AP
  obtain ⟨l, hl⟩ : ∃ l, l = a ++ b := ⟨_, rfl⟩
  have hll : l.length = a.length + b.length := by rw [hl, List.length_append]
  have hta : l.take a.length = a := by rw [hl]; exact List.take_left' rfl
  have HLL := Lib.hid (And.intro hll (And.intro hta hl))
  rw [← hl] at HD15 HD25
  have CR1 := Lib.hid (disk_Crash w.heap.size g1 v1' l a.length 0 (b.length : Int) (.slice none 0 0) [] w5.drew (HD15.out.later (Below.refl _ _).drew) (OffB.nil _ _) (by omega) (by omega))
  have e1 : crE (l.length - a.length) (b.length : Int) ([] : List UInt8).length = 0 := by unfold crE; rw [if_neg (by omega), if_neg (by simp <;> omega)]
  have e2 : crE (l.length - a.length) 0 ([] : List UInt8).length = 0 := by unfold crE; rw [if_neg (by omega), if_neg (by simp <;> omega)]
  have z1 : crL l a.length (b.length : Int) [] = l := by unfold crL; rw [if_pos e1]; simp [← hll]
  have z2 : crL l a.length 0 [] = a := by unfold crL; rw [if_pos e2]; simp [hta]
  have z3 : crS l a.length (b.length : Int) [] = a.length + b.length := by rw [crS, if_pos e1]; simp
  have z4 : crS l a.length 0 [] = a.length := by rw [crS, if_pos e2]; simp
  have z5 : crC l a.length (b.length : Int) [] 0 = 1 := by rw [crC, if_pos e1]
  have z6 : crC l a.length 0 [] 0 = 1 := by rw [crC, if_pos e2]
  rw [z1, z3, z5, e1] at CR1
  have HZ := Lib.hid (And.intro z2 (And.intro z4 (And.intro z6 e2)))
  have HV1 := Lib.hid (show ∀ q, DskQ g1 v1' q → w.heap.size ≤ q ∧ q < w5.heap.size from fun q hq => HD15.out.q hq)
  clear hl hll hta e1 e2 z1 z2 z3 z4 z5 z6
  go_wp2_with fail
  refine OrdR.wp_region_ord (R := Only (fun q => DskQ g1 v1' q ∨ DskQ g2 v2' q)) (way15 _) [(0, false), (1, false), (2, false), (3, true), (4, false), (5, false), (6, false), (7, true), (8, false), (9, false), (10, false), (11, false), (14, false), (15, false), (16, false), (17, false), (18, false), (12, true), (13, false), (19, false), (20, false), (21, false), (22, false), (25, false), (26, false), (23, true), (24, false), (27, false), (28, false)] (by kernel_rfl) rfl (by kernel_rfl) (by kernel_rfl) (fun _ _ _ d _ h => by cases d <;> exact h) ?_
  refine OrdR.ord_still rfl rfl (by kernel_rfl) (fun K hK => ?_)
  go_big_quiet_op
  refine hK _ ?_; clear hK K
  refine OrdR.ord_still rfl rfl (by kernel_rfl) (fun K hK => ?_)
  go_big_quiet_op
  refine hK _ ?_; clear hK K
  refine OrdR.ord_still rfl rfl (by kernel_rfl) (fun K hK => ?_)
  go_big_quiet_op
  refine hK _ ?_; clear hK K
  refine OrdR.ord_loud rfl (by kernel_rfl) (fun K hK => ?_)
  go_big_op
  refine CR1.out.mono ?_
  rintro e w6 ⟨rfl, v16, hd, hO, hp⟩
  refine hK _ _ (hO.mono fun q hq => .inl hq) ?_
  have HO6 := Lib.hid ((Only.refl (DskQ g1 v1') w5).drew.trans hO)
  have HB6 := Lib.hid (HB5.out.trans (HD15.out.below HO6.out))
  have HAP6 := Lib.hid (apart15 (fun q h1 h2 => HAP5.out q h2 h1) (fun q hq => (hp q hq)) fun q hq => (HD25.out.q hq).2)
  have HD16 := Lib.hid hd
  have HD26 := Lib.hid (HD25.out.only HO6.out fun q hq h => HAP5.out q hq h)
  have CR2 := Lib.hid (disk_Crash w.heap.size g2 v2' l a.length 0 0 (.slice none 0 0) [] w6 HD26.out (OffB.nil _ _) (by omega) (by omega))
  rw [HZ.out.1, HZ.out.2.1, HZ.out.2.2.1, HZ.out.2.2.2] at CR2
  clear hd hO hp CR1 HB5 HD15 HD25 HAP5
  clear hK K
  refine OrdR.ord_still rfl rfl (by kernel_rfl) (fun K hK => ?_)
  go_big_quiet_op
  refine hK _ ?_; clear hK K
  refine OrdR.ord_still rfl rfl (by kernel_rfl) (fun K hK => ?_)
  go_big_quiet_op
  refine hK _ ?_; clear hK K
  refine OrdR.ord_still rfl rfl (by kernel_rfl) (fun K hK => ?_)
  go_big_quiet_op
  refine hK _ ?_; clear hK K
  refine OrdR.ord_loud rfl (by kernel_rfl) (fun K hK => ?_)
  go_big_op
  refine CR2.out.mono ?_
  rintro e w7 ⟨rfl, v27, hd, hO, hp⟩
  refine hK _ _ (hO.mono fun q hq => .inr hq) ?_
  have HB7 := Lib.hid (HB6.out.trans (HD26.out.below hO))
  have HAP7 := Lib.hid (apart15 (fun q h1 h2 => HAP6.out q h2 h1) hp fun q hq => (HD16.out.q hq).2)
  have HD27 := Lib.hid hd
  have HD17 := Lib.hid (HD16.out.only hO fun q hq h => HAP6.out q hq h)
  have HQ7 := Lib.hid (show ∀ q, (DskQ g1 v1' q ∨ DskQ g2 v2' q) → w.heap.size ≤ q ∧ q < w7.heap.size from fun q hq => by
    have h6 := HO6.out.size
    have h7 := hO.size
    rcases hq with hq | hq
    · have := HV1.out q hq; omega
    · have := HD26.out.q hq; omega)
  have BY1 := Lib.hid (disk_Bytes _ _ _ _ _ _ _ HD17.out)
  have hsa := fun x : OrdR.GW (Only (fun q => DskQ g1 v1' q ∨ DskQ g2 v2' q)) w7 => (((HA.out w7 HB7.out).stay15w HA.out HB7.out x.grew fun q hq => (HQ7.out q hq).1).str)
  have hsb := fun x : OrdR.GW (Only (fun q => DskQ g1 v1' q ∨ DskQ g2 v2' q)) w7 => (((HB.out w7 HB7.out).stay15w HB.out HB7.out x.grew fun q hq => (HQ7.out q hq).1).str)
  have hcc : (⟨a.toArray⟩ ++ ⟨b.toArray⟩ : ByteArray) = ⟨l.toArray⟩ := by rw [HLL.out.2.2]; exact cat15 a b
  have hcat : ¬ ((⟨a.toArray⟩ : ByteArray).size + (⟨b.toArray⟩ : ByteArray).size > 9223372036854775807) := by have := HL.out; simp [ByteArray.size]; omega
  clear hd hO hp CR2 HB6 HD16 HD26 HAP6
  clear hK K
  refine OrdR.ord_still rfl rfl (by kernel_rfl) (fun K hK => ?_)
  go_big_quiet_op
  refine hK _ ?_; clear hK K
  refine OrdR.ord_still rfl rfl (by kernel_rfl) (fun K hK => ?_)
  go_big_quiet_op
  refine hK _ ?_; clear hK K
  refine OrdR.ord_still rfl rfl (by kernel_rfl) (fun K hK => ?_)
  go_big_quiet_op
  refine hK _ ?_; clear hK K
  refine OrdR.ord_still rfl rfl (by kernel_rfl) (fun K hK => ?_)
  go_big_quiet_op
  refine hK _ ?_; clear hK K
  refine OrdR.ord_still rfl rfl (by kernel_rfl) (fun K hK => ?_)
  go_big_quiet_op
  refine hK _ ?_; clear hK K
  refine OrdR.ord_still rfl rfl (by kernel_rfl) (fun K hK => ?_)
  go_big_quiet_op
  refine hK _ ?_; clear hK K
  refine OrdR.ord_still rfl rfl (by kernel_rfl) (fun K hK => ?_)
  go_big_quiet_op
  refine hK _ ?_; clear hK K
  refine OrdR.ord_still rfl rfl (by kernel_rfl) (fun K hK => ?_)
  go_big_quiet_op
  refine hK _ ?_; clear hK K
  refine OrdR.ord_still rfl rfl (by kernel_rfl) (fun K hK => ?_)
  go_big_quiet_op
  refine hK _ ?_; clear hK K
  refine OrdR.ord_loud rfl (by kernel_rfl) (fun K hK => ?_)
  go_big_op
  refine BY1.out.mono ?_
  rintro e w8 ⟨v8, rfl, ho, hb⟩
  refine hK _ _ (Only.later15 hb) ?_
  obtain ⟨a8, n8, rfl, _⟩ := ho.tor.lit
  have HB8 := Lib.hid (HB7.out.trans (hb.mono HB7.out.size))
  have HQ8 := Lib.hid (show ∀ q, (DskQ g1 v1' q ∨ DskQ g2 v2' q) → w.heap.size ≤ q ∧ q < w8.heap.size from fun q hq => by have := HQ7.out q hq; have := hb.size; omega)
  have hst := fun x : OrdR.GW (Only (fun q => DskQ g1 v1' q ∨ DskQ g2 v2' q)) w8 => (((ho.off (by have := HLL.out.1; have := HL.out; omega) fun j h1 h2 => by have := (HQ7.out j h2).2; omega).only x.grew fun j h => h).1).str
  have hsa8 := fun x : OrdR.GW (Only (fun q => DskQ g1 v1' q ∨ DskQ g2 v2' q)) w8 => (((HA.out w8 HB8.out).stay15w HA.out HB8.out x.grew fun q hq => (HQ8.out q hq).1).str)
  have HD18 := Lib.hid (HD17.out.later hb)
  have HD28 := Lib.hid (HD27.out.later hb)
  have BY2 := Lib.hid (disk_Bytes _ _ _ _ _ _ _ HD28.out)
  clear ho hb BY1 HB7 HD17 HD27 HQ7 hsa hsb hcat hcc
  clear hK K
  refine OrdR.ord_still rfl rfl (by kernel_rfl) (fun K hK => ?_)
  go_big_quiet_op
  refine hK _ ?_; clear hK K
  refine OrdR.ord_still rfl rfl (by kernel_rfl) (fun K hK => ?_)
  go_big_quiet_op
  refine hK _ ?_; clear hK K
  refine OrdR.ord_still rfl rfl (by kernel_rfl) (fun K hK => ?_)
  go_big_quiet_op
  refine hK _ ?_; clear hK K
  refine OrdR.ord_still rfl rfl (by kernel_rfl) (fun K hK => ?_)
  go_big_quiet_op
  refine hK _ ?_; clear hK K
  refine OrdR.ord_still rfl rfl (by kernel_rfl) (fun K hK => ?_)
  go_big_quiet_op
  refine hK _ ?_; clear hK K
  refine OrdR.ord_still rfl rfl (by kernel_rfl) (fun K hK => ?_)
  go_big_quiet_op
  refine hK _ ?_; clear hK K
  refine OrdR.ord_still rfl rfl (by kernel_rfl) (fun K hK => ?_)
  go_big_quiet_op
  refine hK _ ?_; clear hK K
  refine OrdR.ord_loud rfl (by kernel_rfl) (fun K hK => ?_)
  go_big_op
  refine BY2.out.mono ?_
  rintro e w9 ⟨v9, rfl, ho, hb⟩
  refine hK _ _ (Only.later15 hb) ?_
  obtain ⟨a9, n9, rfl, _⟩ := ho.tor.lit
  have HB9 := Lib.hid (HB8.out.trans (hb.mono HB8.out.size))
  have HQ9 := Lib.hid (show ∀ q, (DskQ g1 v1' q ∨ DskQ g2 v2' q) → w.heap.size ≤ q ∧ q < w9.heap.size from fun q hq => by have := HQ8.out q hq; have := hb.size; omega)
  have hst9 := fun x : OrdR.GW (Only (fun q => DskQ g1 v1' q ∨ DskQ g2 v2' q)) w9 => (((ho.off (by have := HL.out; omega) fun j h1 h2 => by have := (HQ8.out j h2).2; omega).only x.grew fun j h => h).1).str
  have HD19 := Lib.hid (HD18.out.later hb)
  have HD29 := Lib.hid (HD28.out.later hb)
  have HAP9 := Lib.hid (fun q (h1 : DskQ g2 v27 q) (h2 : DskQ g1 v16 q) => HAP7.out q h1 h2)
  clear ho hb BY2 HB8 HD18 HD28 HQ8 hst hsa8
  clear hK K
  refine OrdR.ord_still rfl rfl (by kernel_rfl) (fun K hK => ?_)
  go_big_quiet_op
  refine hK _ ?_; clear hK K
  refine OrdR.ord_still rfl rfl (by kernel_rfl) (fun K hK => ?_)
  go_big_quiet_op
  refine hK _ ?_; clear hK K
  refine OrdR.ord_still rfl rfl (by kernel_rfl) (fun K hK => ?_)
  go_big_quiet_op
  refine hK _ ?_; clear hK K
  refine OrdR.ord_nil ?_
  have CR3 := Lib.hid (disk_Crash w.heap.size g1 v16 l (a.length + b.length) 1 0 (.slice none 0 0) [] w9.drew (HD19.out.later (Below.refl _ _).drew) (OffB.nil _ _) (by omega) (by omega))
  have hll := HLL.out.1
  have e1 : crE (l.length - (a.length + b.length)) 0 ([] : List UInt8).length = 0 := by unfold crE; rw [if_neg (by omega), if_neg (by simp <;> omega)]
  have z1 : crL l (a.length + b.length) 0 [] = l := by unfold crL; rw [if_pos e1]; simp [← hll]
  have z3 : crS l (a.length + b.length) 0 [] = a.length + b.length := by unfold crS; rw [if_pos e1]; simp
  have z5 : crC l (a.length + b.length) 0 [] 1 = 2 := by unfold crC; rw [if_pos e1]
  rw [z1, z3, z5, e1] at CR3
  have HV9 := Lib.hid (show ∀ q, DskQ g1 v16 q → w.heap.size ≤ q ∧ q < w9.heap.size from fun q hq => HD19.out.q hq)
  clear z1 z3 z5 e1 hll hst9 HAP7 HQ9 HV1 HO6
  go_wp2_with fail
  refine OrdR.wp_region_ord (R := Only (DskQ g1 v16)) (way15 _) [(0, false), (1, true), (2, false), (3, false), (4, false), (7, false), (8, false), (9, false), (10, false), (11, false), (5, true), (6, false), (12, false), (13, false), (14, false), (15, false), (17, false), (18, false), (19, false), (20, false), (21, false), (16, true), (22, false), (23, false), (24, false), (25, false), (26, true), (27, false), (28, false), (29, false), (30, false), (31, true), (32, false), (33, false), (34, false)] (by kernel_rfl) rfl (by kernel_rfl) (by kernel_rfl) (fun _ _ _ d _ h => by cases d <;> exact h) ?_
  refine OrdR.ord_still rfl rfl (by kernel_rfl) (fun K hK => ?_)
  go_big_quiet_op
  refine hK _ ?_; clear hK K
  refine OrdR.ord_loud rfl (by kernel_rfl) (fun K hK => ?_)
  go_big_op
  refine CR3.out.mono ?_
  rintro e w10 ⟨rfl, v17, hd, hO, hp⟩
  refine hK _ _ hO ?_
  have HB10 := Lib.hid (HB9.out.trans (HD19.out.below ((Only.refl _ w9).drew.trans hO)))
  have HD10 := Lib.hid hd
  have HQ10 := Lib.hid (show ∀ q, DskQ g1 v16 q → w.heap.size ≤ q ∧ q < w10.heap.size from fun q hq => by have h1 := HV9.out q hq; have h2 : w9.heap.size ≤ w10.heap.size := hO.size; omega)
  have HD20 := Lib.hid (HD29.out.only ((Only.refl _ w9).drew.trans hO) fun q hq h => HAP9.out q hq h)
  have BY3 := Lib.hid (disk_Bytes _ _ _ _ _ _ _ HD10.out)
  have hsa := fun x : OrdR.GW (Only (DskQ g1 v16)) w10 => (((HA.out w10 HB10.out).stay15w HA.out HB10.out x.grew fun q hq => (HQ10.out q hq).1).str)
  have hsb := fun x : OrdR.GW (Only (DskQ g1 v16)) w10 => (((HB.out w10 HB10.out).stay15w HB.out HB10.out x.grew fun q hq => (HQ10.out q hq).1).str)
  have hcc : (⟨a.toArray⟩ ++ ⟨b.toArray⟩ : ByteArray) = ⟨l.toArray⟩ := by rw [HLL.out.2.2]; exact cat15 a b
  have hcat : ¬ ((⟨a.toArray⟩ : ByteArray).size + (⟨b.toArray⟩ : ByteArray).size > 9223372036854775807) := by have := HL.out; simp [ByteArray.size]; omega
  clear hd hO hp CR3 HB9 HD19 HD29 HV9
  clear hK K
  refine OrdR.ord_still rfl rfl (by kernel_rfl) (fun K hK => ?_)
  go_big_quiet_op
  refine hK _ ?_; clear hK K
  refine OrdR.ord_still rfl rfl (by kernel_rfl) (fun K hK => ?_)
  go_big_quiet_op
  refine hK _ ?_; clear hK K
  refine OrdR.ord_still rfl rfl (by kernel_rfl) (fun K hK => ?_)
  go_big_quiet_op
  refine hK _ ?_; clear hK K
  refine OrdR.ord_still rfl rfl (by kernel_rfl) (fun K hK => ?_)
  go_big_quiet_op
  refine hK _ ?_; clear hK K
  refine OrdR.ord_still rfl rfl (by kernel_rfl) (fun K hK => ?_)
  go_big_quiet_op
  refine hK _ ?_; clear hK K
  refine OrdR.ord_still rfl rfl (by kernel_rfl) (fun K hK => ?_)
  go_big_quiet_op
  refine hK _ ?_; clear hK K
  refine OrdR.ord_still rfl rfl (by kernel_rfl) (fun K hK => ?_)
  go_big_quiet_op
  refine hK _ ?_; clear hK K
  refine OrdR.ord_still rfl rfl (by kernel_rfl) (fun K hK => ?_)
  go_big_quiet_op
  refine hK _ ?_; clear hK K
  refine OrdR.ord_loud rfl (by kernel_rfl) (fun K hK => ?_)
  go_big_op
  refine BY3.out.mono ?_
  rintro e w11 ⟨v11, rfl, ho, hb⟩
  refine hK _ _ (Only.later15 hb) ?_
  obtain ⟨a11, n11, rfl, _⟩ := ho.tor.lit
  have HB11 := Lib.hid (HB10.out.trans (hb.mono HB10.out.size))
  have hst := fun x : OrdR.GW (Only (DskQ g1 v16)) w11 => (((ho.off (by have := HLL.out.1; have := HL.out; omega) fun j h1 h2 => by have := (HQ10.out j h2).2; omega).only x.grew fun j h => h).1).str
  have HD11 := Lib.hid (HD10.out.later hb)
  have HD21 := Lib.hid (HD20.out.later hb)
  have SA := Lib.hid (disk_Safe _ _ _ _ _ _ _ HD11.out)
  have CS1 := Lib.hid (disk_Crashes _ _ _ _ _ _ _ HD11.out)
  have CS2 := Lib.hid (disk_Crashes _ _ _ _ _ _ _ HD21.out)
  clear ho hb BY3 HB10 HD10 HD20 HQ10 hsa hsb hcat hcc
  clear hK K
  refine OrdR.ord_still rfl rfl (by kernel_rfl) (fun K hK => ?_)
  go_big_quiet_op
  refine hK _ ?_; clear hK K
  refine OrdR.ord_still rfl rfl (by kernel_rfl) (fun K hK => ?_)
  go_big_quiet_op
  refine hK _ ?_; clear hK K
  refine OrdR.ord_still rfl rfl (by kernel_rfl) (fun K hK => ?_)
  go_big_quiet_op
  refine hK _ ?_; clear hK K
  refine OrdR.ord_still rfl rfl (by kernel_rfl) (fun K hK => ?_)
  go_big_quiet_op
  refine hK _ ?_; clear hK K
  refine OrdR.ord_still rfl rfl (by kernel_rfl) (fun K hK => ?_)
  go_big_quiet_op
  refine hK _ ?_; clear hK K
  refine OrdR.ord_still rfl rfl (by kernel_rfl) (fun K hK => ?_)
  go_big_quiet_op
  refine hK _ ?_; clear hK K
  refine OrdR.ord_still rfl rfl (by kernel_rfl) (fun K hK => ?_)
  go_big_quiet_op
  refine hK _ ?_; clear hK K
  refine OrdR.ord_still rfl rfl (by kernel_rfl) (fun K hK => ?_)
  go_big_quiet_op
  refine hK _ ?_; clear hK K
  refine OrdR.ord_still rfl rfl (by kernel_rfl) (fun K hK => ?_)
  go_big_quiet_op
  refine hK _ ?_; clear hK K
  refine OrdR.ord_still rfl rfl (by kernel_rfl) (fun K hK => ?_)
  go_big_quiet_op
  refine hK _ ?_; clear hK K
  refine OrdR.ord_loud rfl (by kernel_rfl) (fun K hK => ?_)
  go_big_op
  refine SA.out.mono ?_
  rintro e wz ⟨rfl, hz⟩
  rw [hz]
  clear hz wz
  refine hK _ _ (Only.refl _ _) ?_
  clear SA
  clear hK K
  refine OrdR.ord_still rfl rfl (by kernel_rfl) (fun K hK => ?_)
  go_big_quiet_op
  refine hK _ ?_; clear hK K
  refine OrdR.ord_still rfl rfl (by kernel_rfl) (fun K hK => ?_)
  go_big_quiet_op
  refine hK _ ?_; clear hK K
  refine OrdR.ord_still rfl rfl (by kernel_rfl) (fun K hK => ?_)
  go_big_quiet_op
  refine hK _ ?_; clear hK K
  refine OrdR.ord_still rfl rfl (by kernel_rfl) (fun K hK => ?_)
  go_big_quiet_op
  refine hK _ ?_; clear hK K
  refine OrdR.ord_loud rfl (by kernel_rfl) (fun K hK => ?_)
  go_big_op
  refine CS1.out.mono ?_
  rintro e wz ⟨rfl, hz⟩
  rw [hz]
  clear hz wz
  refine hK _ _ (Only.refl _ _) ?_
  clear CS1
  clear hK K
  refine OrdR.ord_still rfl rfl (by kernel_rfl) (fun K hK => ?_)
  go_big_quiet_op
  refine hK _ ?_; clear hK K
  refine OrdR.ord_still rfl rfl (by kernel_rfl) (fun K hK => ?_)
  go_big_quiet_op
  refine hK _ ?_; clear hK K
  refine OrdR.ord_still rfl rfl (by kernel_rfl) (fun K hK => ?_)
  go_big_quiet_op
  refine hK _ ?_; clear hK K
  refine OrdR.ord_still rfl rfl (by kernel_rfl) (fun K hK => ?_)
  go_big_quiet_op
  refine hK _ ?_; clear hK K
  refine OrdR.ord_loud rfl (by kernel_rfl) (fun K hK => ?_)
  go_big_op
  refine CS2.out.mono ?_
  rintro e wz ⟨rfl, hz⟩
  rw [hz]
  clear hz wz
  refine hK _ _ (Only.refl _ _) ?_
  clear CS2
  clear hK K
  refine OrdR.ord_still rfl rfl (by kernel_rfl) (fun K hK => ?_)
  go_big_quiet_op
  refine hK _ ?_; clear hK K
  refine OrdR.ord_still rfl rfl (by kernel_rfl) (fun K hK => ?_)
  go_big_quiet_op
  refine hK _ ?_; clear hK K
  refine OrdR.ord_still rfl rfl (by kernel_rfl) (fun K hK => ?_)
  go_big_quiet_op
  refine hK _ ?_; clear hK K
  refine OrdR.ord_nil ?_
  go_wp2
  go_ret
  exact ⟨rfl, HB11.out⟩

end Go.Proofs.Ytegaamebcoockaa
