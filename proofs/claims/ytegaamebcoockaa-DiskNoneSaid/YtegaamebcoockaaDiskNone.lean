/-
  DiskNone: of no disk nothing is told; who changes bytes that were handed in, or told, changes none. For every input.
-/
import Derived.Test.YtegaamebcoockaaDskAlive
import Derived.Test.YtegaamebcoockaaDskRef
set_option linter.unusedVariables false
set_option linter.unusedSimpArgs false
set_option maxRecDepth 1000000
namespace Go.Proofs.Ytegaamebcoockaa
open Go.RowKit

theorem xor_full15 : ∀ a : Fin 256, bits .xor .u8 ((a.1 : Nat) : Int) 255 = ((UInt8.ofNat (a.1 ^^^ 255)).toNat : Int) := by decide +kernel
theorem xor255_15 (t : List UInt8) (i : Nat) : Value.int .u8 (bits .xor .u8 (at8 t i) 255) = cellB (UInt8.ofNat ((t.getD i 0).toNat ^^^ 255)) := by
  unfold cellB at8
  rw [xor_full15 ⟨(t.getD i 0).toNat, (t.getD i 0).toNat_lt⟩]
theorem Own.turn15 {w : World} {base : Nat} {v : Value} {l : List UInt8} (h : Own w base v l) {i : Nat} (hi : i < l.length) (u : Value) : Only (fun q => v.ownBlock = some q) w (w.setCell (adr v i) u) := by
  refine (Only.refl _ w).setCell ?_ u
  rcases h.2 with ⟨rfl, hn⟩ | ⟨g, cap, cur, rfl, hbg, hg, r⟩
  · omega
  · show some g = some (adr (.slice (some ⟨g, 0, none⟩) l.length cap) i).block
    simp only [adr, Addr.add]; split <;> simp_all

set_option maxHeartbeats 16000000 in
theorem diskNone_walk (va : Value) (b : List UInt8) (k : Int) (w : World) (ha : Rd w va b) (hk : -9223372036854775808 ≤ k ∧ k ≤ 9223372036854775807) :
    Calls Try.prog 4 #[va, .int .i64 k] w fun e w' => e = .returned (.bool true) ∧ Below w.heap.size w w' := by
  obtain ⟨aa, ac, rfl, _⟩ := ha.shape
  have hal := ha.len
  have hasm := ha.small
  have HA := Lib.hid (fun wz (hz : Below w.heap.size w wz) => ha.later hz (Nat.le_refl _))
  obtain ⟨n, hn⟩ : ∃ n, n = b.length := ⟨_, rfl⟩
  rw [← hn] at hal hasm HA ⊢
  have HN := Lib.hid hn
  clear ha hn
  go_enter Try.func4, Try.ntmps4
  go_wp2_with fail
  refine (none_Append15 _ w).mono ?_
  rintro e w9 ⟨rfl, h9⟩
  rw [h9]
  clear h9 w9
  go_wp2_with fail
  refine (none_Sync15 w).mono ?_
  rintro e w9 ⟨rfl, h9⟩
  rw [h9]
  clear h9 w9
  go_wp2_with fail
  refine (none_Crash15 _ _ w).mono ?_
  rintro e w9 ⟨rfl, h9⟩
  rw [h9]
  clear h9 w9
  go_wp2_with fail
  refine (none_Bytes15 w).mono ?_
  rintro e w9 ⟨rfl, h9⟩
  rw [h9]
  clear h9 w9
  go_wp2_with fail
  refine (none_Safe15 w).mono ?_
  rintro e w9 ⟨rfl, h9⟩
  rw [h9]
  clear h9 w9
  go_wp2_with fail
  refine (none_Crashes15 w).mono ?_
  rintro e w9 ⟨rfl, h9⟩
  rw [h9]
  clear h9 w9
  by_cases hbig : 1000 < n
  · have d1 : decide ((n : Int) > 1000) = true := decide_eq_true (by omega)
    go_wp2_with fail
    refine (law15_alive w).mono ?_
    rintro e w2 ⟨rfl, hb2⟩
    go_wp2
    go_ret
    exact ⟨rfl, hb2⟩
  have d1 : decide ((n : Int) > 1000) = false := decide_eq_false (by omega)
  have HL := Lib.hid (show b.length ≤ 1000 from by have := HN.out; omega)
  have HA0 := Lib.hid (HA.out _ ((Below.refl w.heap.size w).alloc (Nat.le_refl _) (.cells #[] 5)))
  have HO0 := Lib.hid (own_empty w w.heap.size (Nat.le_refl _))
  have HB0 := Lib.hid ((Below.refl w.heap.size w).alloc (Nat.le_refl _) (.cells #[] 5))
  clear hbig hk
  go_wp2_with (with_reducible refine wpl_append w.heap.size _ [] ?hs HO0.out _ b ?hx HA0.out ?hn9 ?hbase w.heap.size w HB0.out (Nat.le_refl _) ?_)
  case hs => rfl
  case hx => rfl
  case hn9 => have := HL.out; simp; omega
  case hbase => simp
  intro v1 w1 ho1 hb1 _
  rw [List.nil_append] at ho1
  obtain ⟨a1, n1, rfl, _⟩ := ho1.tor.lit
  rw [← HN.out] at ho1 ⊢
  have HO1 := Lib.hid ho1
  have HB1 := Lib.hid hb1
  have NW := Lib.hid (disk_New _ b w1 (ho1.rd (by have := HL.out; omega)) (by have := HL.out; omega))
  clear ho1 hb1 HA0 HO0 HB0
  go_wp2_with fail
  refine NW.out.mono ?_
  rintro e w2 ⟨g, v2, rfl, hd, hb2⟩
  have HB2 := Lib.hid (HB1.out.trans (hb2.mono HB1.out.size))
  have HO2 := Lib.hid (HO1.out.later hb2 (Nat.le_refl _))
  have HG2 := Lib.hid (show ∀ q, (Value.slice a1 n n1).ownBlock = some q → w.heap.size ≤ q ∧ q < w1.heap.size from fun q hq => HO1.out.tor.lt hq)
  have HD2 := Lib.hid hd
  have hw1 : w.heap.size ≤ w1.heap.size := HB1.out.size
  have HW1 := Lib.hid hw1
  have AP := Lib.hid (disk_Append w1.heap.size g v2 b b.length 0 _ b w2 hd (HO2.out.rd (by have := HL.out; omega)) (by have := HL.out; omega))
  clear hb2 hd NW HO1 HB1 hw1
  go_wp2_with fail
  refine AP.out.mono ?_
  rintro e w3 ⟨rfl, v3, hd, hO, _⟩
  have HB3 := Lib.hid (HB2.out.trans ((HD2.out.below hO).mono HW1.out))
  have HO3 := Lib.hid (show Own w3 w.heap.size (.slice a1 n n1) b from by
    have h := HO2.out.tor.only hO fun q hq h => by have h1 := (HG2.out q hq).2; have h2 := (HD2.out.q h).1; omega
    refine ⟨HO2.out.1, ?_⟩
    rcases HO2.out.2 with h2 | ⟨g9, cap, cur, e9, hbg, hg, r⟩
    · exact .inl h2
    · exact .inr ⟨g9, cap, cur, e9, hbg, hO.keep hg (fun h => by have h1 := (HG2.out g9 (by rw [e9]; rfl)).2; have h2 := (HD2.out.q h).1; omega), r⟩)
  have HD3 := Lib.hid hd
  clear hd hO AP HB2 HO2 HD2
  have hol := (HO3.out.rd (by have := HL.out; omega)).len
  rw [← HN.out] at hol
  go_wp2
  go_loopw [69] (fun i wr => ∃ (j : Nat) (t : List UInt8), j ≤ n ∧ i = .int .i64 j ∧ t.length = n ∧ Hid (Own wr w.heap.size (.slice a1 n n1) t) ∧ Hid (Only (fun q => (Value.slice a1 n n1).ownBlock = some q) w3 wr)) (fun i _ => n - (intOf i).toNat)
  case atStart => exact ⟨0, b, by omega, rfl, HN.out.symm, HO3, Lib.hid (Only.refl _ _)⟩
  case round =>
    obtain ⟨j, t, hj, rfl, htl, HOt, HOn⟩ := hrel
    by_cases hlt : j < n
    · have hq : j < t.length := by omega
      obtain ⟨hrg, hfr, hBg⟩ := HOt.out.set hq (UInt8.ofNat ((t.getD j 0).toNat ^^^ 255))
      have htr := HOt.out.turn15 hq (cellB (UInt8.ofNat ((t.getD j 0).toNat ^^^ 255)))
      have hrt := HOt.out.rd (by have := HL.out; have := HN.out; omega)
      have hidx := hrt.idx j hq
      have hcel := hrt.cells j hq
      rw [← xor255_15] at hrg htr
      have HRG := Lib.hid hrg
      have HTR := Lib.hid htr
      have HTL := Lib.hid htl
      clear hrg htr hrt hBg htl
      go_wp2
      go_roundw
      case rel => exact ⟨j + 1, _, by omega, by go_num, by rw [List.length_set]; exact HTL.out, HRG, Lib.hid (HOn.out.trans HTR.out)⟩
      case measure => simp [intOf]; omega
    · obtain rfl : j = n := by omega
      have hO4 := HOn.out
      have HB4 := Lib.hid (HB3.out.trans (hO4.toBelow (fun q hq => (HG2.out q hq).1) HB3.out.size))
      have HD4 := Lib.hid (HD3.out.only hO4 fun q hq h => by have h1 := (HD3.out.q hq).1; have h2 := (HG2.out q h).2; omega)
      clear hO4 HOt HOn HO3 hol hlt htl hj HB3 HD3
      have BY := Lib.hid (disk_Bytes _ _ _ _ _ _ _ (HD4.out.later (Below.refl _ _).drew))
      have hsb := fun x : OrdR.GW (Only (fun _ => False)) wr.drew => (HA.out x.val (HB4.out.trans (((Only.refl (fun _ => False) wr).drew.trans x.grew).toBelow (fun q hq => hq.elim) HB4.out.size))).str
      have hcc := cat15 b b
      have hcat : ¬ ((⟨b.toArray⟩ : ByteArray).size + (⟨b.toArray⟩ : ByteArray).size > 9223372036854775807) := by have := HL.out; simp [ByteArray.size]; omega
      have hl2 : (b ++ b).length ≤ 140737488351232 := by have := HL.out; rw [List.length_append]; omega
      have HL2 := Lib.hid hl2
      obtain ⟨l, hl⟩ : ∃ l, l = b ++ b := ⟨_, rfl⟩
      rw [← hl] at BY HD4 hcc HL2
      have HLE := Lib.hid hl
      clear hl hl2
      go_wp2_with fail
      refine OrdR.wp_region_ord (R := Only (fun _ => False)) (way15 _) [(0, false), (3, false), (4, false), (5, false), (6, false), (7, false), (1, true), (2, false), (8, false)] (by kernel_rfl) rfl (by kernel_rfl) (by kernel_rfl) (fun _ _ _ d _ h => by cases d <;> exact h) ?_
      refine OrdR.ord_still rfl rfl (by kernel_rfl) (fun K hK => ?_)
      go_big_quiet_op
      refine hK _ ?_; clear hK K
      refine OrdR.ord_still rfl rfl (by kernel_rfl) (fun K hK => ?_)
      go_big_quiet_op
      refine hK _ ?_; clear hK K
      refine OrdR.ord_still rfl rfl (by kernel_rfl) (fun K hK => ?_)
      go_big_quiet_op
      refine hK _ ?_; clear hK K
      refine OrdR.ord_still rfl rfl (by kernel_rfl) (fun K hK => ?_)
      go_big_quiet_op
      refine hK _ ?_; clear hK K
      refine OrdR.ord_still rfl rfl (by kernel_rfl) (fun K hK => ?_)
      go_big_quiet_op
      refine hK _ ?_; clear hK K
      refine OrdR.ord_still rfl rfl (by kernel_rfl) (fun K hK => ?_)
      go_big_quiet_op
      refine hK _ ?_; clear hK K
      refine OrdR.ord_loud rfl (by kernel_rfl) (fun K hK => ?_)
      go_big_op
      refine BY.out.mono ?_
      rintro e w5 ⟨v5, rfl, ho, hb⟩
      refine hK _ _ (Only.later15 hb) ?_
      obtain ⟨a5, n5, rfl, _⟩ := ho.tor.lit
      have hb4 := (Below.refl wr.heap.size wr).drew.trans hb
      have HB5 := Lib.hid (HB4.out.trans (hb4.mono HB4.out.size))
      have hst := fun x : OrdR.GW (Only (fun _ => False)) w5 => (((ho.off (Q := fun _ => False) HL2.out fun _ _ h => h).only x.grew fun j h => h).1).str
      have HD5 := Lib.hid (HD4.out.later hb4)
      have BY := Lib.hid (disk_Bytes _ _ _ _ _ _ _ HD5.out)
      clear ho hb hb4 HB4 HD4 hsb
      clear hK K
      refine OrdR.ord_still rfl rfl (by kernel_rfl) (fun K hK => ?_)
      go_big_quiet_op
      refine hK _ ?_; clear hK K
      refine OrdR.ord_still rfl rfl (by kernel_rfl) (fun K hK => ?_)
      go_big_quiet_op
      refine hK _ ?_; clear hK K
      refine OrdR.ord_nil ?_
      go_wp2_with fail
      refine BY.out.mono ?_
      rintro e w6 ⟨v6, rfl, ho, hb⟩
      obtain ⟨a6, n6, rfl, _⟩ := ho.tor.lit
      have hol := (ho.rd HL2.out).len
      have hls := HL2.out
      obtain ⟨m, hm⟩ : ∃ m, m = l.length := ⟨_, rfl⟩
      rw [← hm] at ho hol hls ⊢
      have HM := Lib.hid hm
      have HO6 := Lib.hid ho
      have HB6 := Lib.hid (HB5.out.trans (hb.mono HB5.out.size))
      have HG6 := Lib.hid (show ∀ q, (Value.slice a6 m n6).ownBlock = some q → w5.heap.size ≤ q from fun q hq => (ho.tor.lt hq).1)
      have HD6 := Lib.hid (HD5.out.later hb)
      have HQ6 := Lib.hid (show ∀ q, DskQ g v3 q → q < w5.heap.size from fun q hq => (HD5.out.q hq).2)
      clear hm ho hb BY HD5 hst hcc hcat
      go_wp2
      go_loopw [92] (fun i wx => ∃ (j : Nat) (t : List UInt8), j ≤ m ∧ i = .int .i64 j ∧ t.length = m ∧ Hid (Own wx w5.heap.size (.slice a6 m n6) t) ∧ Hid (Only (fun q => (Value.slice a6 m n6).ownBlock = some q) w6 wx)) (fun i _ => m - (intOf i).toNat)
      case atStart => exact ⟨0, l, by omega, rfl, HM.out.symm, HO6, Lib.hid (Only.refl _ _)⟩
      case round =>
        obtain ⟨j, t, hj, rfl, htl, HOt, HOn⟩ := hrel
        by_cases hlt : j < m
        · have hq : j < t.length := by omega
          obtain ⟨hrg, hfr, hBg⟩ := HOt.out.set hq 0
          have htr := HOt.out.turn15 hq (cellB 0)
          have hrt := HOt.out.rd (by omega)
          have hidx := hrt.idx j hq
          have hcel := hrt.cells j hq
          rw [show cellB 0 = .int .u8 0 from rfl] at hrg htr
          have HRG := Lib.hid hrg
          have HTR := Lib.hid htr
          have HTL := Lib.hid htl
          clear hrg htr hrt hBg htl
          go_wp2
          go_roundw
          case rel => exact ⟨j + 1, _, by omega, by go_num, by rw [List.length_set]; exact HTL.out, HRG, Lib.hid (HOn.out.trans HTR.out)⟩
          case measure => simp [intOf]; omega
        · obtain rfl : j = m := by omega
          have hO7 := HOn.out
          have HB7 := Lib.hid (HB6.out.trans (hO7.toBelow (fun q hq => by have h1 := HG6.out q hq; have h2 := HB5.out.size; omega) HB6.out.size))
          have HD7 := Lib.hid (HD6.out.only hO7 fun q hq h => by have h1 := HQ6.out q hq; have h2 := HG6.out q h; omega)
          clear hO7 HOt HOn HO6 hol hlt htl hj HB6 HD6
          obtain ⟨w7, hw7⟩ : ∃ w7, w7 = wr := ⟨_, rfl⟩
          rw [← hw7] at HB7 HD7 ⊢
          clear hw7
          have hcat : ¬ ((⟨b.toArray⟩ : ByteArray).size + (⟨b.toArray⟩ : ByteArray).size > 9223372036854775807) := by have := HL.out; simp [ByteArray.size]; omega
          have hcc : (⟨b.toArray⟩ ++ ⟨b.toArray⟩ : ByteArray) = ⟨l.toArray⟩ := by rw [HLE.out]; exact cat15 b b
          have AL := Lib.hid (law15_alive w7.drew)
          go_wp2_with fail
          refine OrdR.wp_region_ord (R := Only (fun _ => False)) (way15 _) [(0, true), (1, false), (2, false), (5, false), (6, false), (7, false), (8, false), (9, false), (3, true), (4, false), (10, false), (11, false), (12, false)] (by kernel_rfl) rfl (by kernel_rfl) (by kernel_rfl) (fun _ _ _ d _ h => by cases d <;> exact h) ?_
          refine OrdR.ord_loud rfl (by kernel_rfl) (fun K hK => ?_)
          go_big_op
          refine AL.out.mono ?_
          rintro e w8 ⟨rfl, hb⟩
          refine hK _ _ (Only.later15 hb) ?_
          have hb7 := (Below.refl w7.heap.size w7).drew.trans hb
          have HB8 := Lib.hid (HB7.out.trans (hb7.mono HB7.out.size))
          have HD8 := Lib.hid (HD7.out.later hb7)
          have BY := Lib.hid (disk_Bytes _ _ _ _ _ _ _ HD8.out)
          have hsb := fun x : OrdR.GW (Only (fun _ => False)) w8 => (HA.out x.val (HB8.out.trans (x.grew.toBelow (fun q hq => hq.elim) HB8.out.size))).str
          clear hb hb7 AL HB7 HD7
          clear hK K
          refine OrdR.ord_still rfl rfl (by kernel_rfl) (fun K hK => ?_)
          go_big_quiet_op
          refine hK _ ?_; clear hK K
          refine OrdR.ord_still rfl rfl (by kernel_rfl) (fun K hK => ?_)
          go_big_quiet_op
          refine hK _ ?_; clear hK K
          refine OrdR.ord_still rfl rfl (by kernel_rfl) (fun K hK => ?_)
          go_big_quiet_op
          refine hK _ ?_; clear hK K
          refine OrdR.ord_still rfl rfl (by kernel_rfl) (fun K hK => ?_)
          go_big_quiet_op
          refine hK _ ?_; clear hK K
          refine OrdR.ord_still rfl rfl (by kernel_rfl) (fun K hK => ?_)
          go_big_quiet_op
          refine hK _ ?_; clear hK K
          refine OrdR.ord_still rfl rfl (by kernel_rfl) (fun K hK => ?_)
          go_big_quiet_op
          refine hK _ ?_; clear hK K
          refine OrdR.ord_still rfl rfl (by kernel_rfl) (fun K hK => ?_)
          go_big_quiet_op
          refine hK _ ?_; clear hK K
          refine OrdR.ord_loud rfl (by kernel_rfl) (fun K hK => ?_)
          go_big_op
          refine BY.out.mono ?_
          rintro e w10 ⟨v10, rfl, ho, hb⟩
          refine hK _ _ (Only.later15 hb) ?_
          obtain ⟨a10, n10, rfl, _⟩ := ho.tor.lit
          have HB10 := Lib.hid (HB8.out.trans (hb.mono HB8.out.size))
          have hst := fun x : OrdR.GW (Only (fun _ => False)) w10 => (((ho.off (Q := fun _ => False) HL2.out fun _ _ h => h).only x.grew fun j h => h).1).str
          clear ho hb BY HB8 HD8 hsb
          clear hK K
          refine OrdR.ord_still rfl rfl (by kernel_rfl) (fun K hK => ?_)
          go_big_quiet_op
          refine hK _ ?_; clear hK K
          refine OrdR.ord_still rfl rfl (by kernel_rfl) (fun K hK => ?_)
          go_big_quiet_op
          refine hK _ ?_; clear hK K
          refine OrdR.ord_still rfl rfl (by kernel_rfl) (fun K hK => ?_)
          go_big_quiet_op
          refine hK _ ?_; clear hK K
          refine OrdR.ord_still rfl rfl (by kernel_rfl) (fun K hK => ?_)
          go_big_quiet_op
          refine hK _ ?_; clear hK K
          refine OrdR.ord_nil ?_
          go_wp2
          go_ret
          exact ⟨rfl, HB10.out⟩

end Go.Proofs.Ytegaamebcoockaa
