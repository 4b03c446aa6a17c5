/-
  DiskActs: of any calls each answer is the document's, the bytes, how many are safe, and how many crashes there were. For every input.
-/
import Derived.Test.YtegaamebcoockaaDskAlive
import Derived.Test.YtegaamebcoockaaDskRef
set_option linter.unusedVariables false
set_option linter.unusedSimpArgs false
set_option maxRecDepth 1000000
namespace Go.Proofs.Ytegaamebcoockaa
open Go.RowKit

theorem mdk_turn {w w' : World} {N gm g n : Nat} {s r : List UInt8} {v v' : Value} (h : Mdk w N gm s r n (DskQ g v)) (hO : Only (DskQ g v) w w') (hp : Plc w v v') : Mdk w' N gm s r n (DskQ g v') := by
  have h1 : Mdk w N gm s r n (fun j => DskQ g v j ∨ DskQ g v' j) := h.more fun j hj hq => by
    rcases hq with hq | hq | hq
    · exact hq
    · exact .inl hq
    · rcases hp j hq with h2 | h2
      · exact .inr h2
      · omega
  exact (h1.only hO fun j hj => .inl hj).more fun j _ hq => .inr hq
theorem crash15 {s r j : List UInt8} {k : Int} {c : Nat} : crE ((s ++ r).length - s.length) k j.length = crE r.length k j.length ∧
    (crE r.length k j.length = 0 → crL (s ++ r) s.length k j = (s ++ (r.take k.toNat ++ j)) ++ [] ∧ crS (s ++ r) s.length k j = (s ++ (r.take k.toNat ++ j)).length ∧ crC (s ++ r) s.length k j c = c + 1 ∧ (r.take k.toNat ++ j).length ≤ r.length) ∧
    (crE r.length k j.length ≠ 0 → crL (s ++ r) s.length k j = s ++ r ∧ crS (s ++ r) s.length k j = s.length ∧ crC (s ++ r) s.length k j c = c) := by
  have e : (s ++ r).length - s.length = r.length := by rw [List.length_append]; omega
  unfold crL crS crC
  rw [e]
  refine ⟨rfl, fun h => ?_, fun h => ?_⟩
  · have h0 : 0 ≤ k ∧ k.toNat + j.length ≤ r.length := by
      unfold crE at h
      split at h
      · cases h
      · split at h
        · cases h
        · omega
    rw [if_pos h, if_pos h, if_pos h]
    refine ⟨?_, ?_, rfl, ?_⟩
    · rw [List.append_nil, List.take_append, List.take_of_length_le (by omega), show s.length + k.toNat - s.length = k.toNat from by omega, List.append_assoc]
    · simp only [List.length_append, List.length_take]; omega
    · simp only [List.length_append, List.length_take]; omega
  · rw [if_neg h, if_neg h, if_neg h]
    exact ⟨rfl, rfl, rfl⟩

set_option maxHeartbeats 32000000 in
theorem diskActs_walk (vb : Value) (b : List UInt8) (va : Value) (ts : List ActD) (w : World) (hb : Rd w vb b) (ha : RdD w va ts) :
    Calls Try.prog 3 #[vb, va] w fun e w' => e = .returned (.bool true) ∧ Below w.heap.size w w' := by
  obtain ⟨ba, bc, rfl, _⟩ := hb.shape
  obtain ⟨aa, ac, rfl⟩ := ha.lit
  have hbl := hb.len
  have hbsm := hb.small
  have hal := ha.len
  have hasm := ha.small
  have HB := Lib.hid (fun wz (hz : Below w.heap.size w wz) => hb.later hz (Nat.le_refl _))
  have HR := Lib.hid (fun wz (hz : Below w.heap.size w wz) => ha.later hz)
  obtain ⟨n, hn⟩ : ∃ n, n = ts.length := ⟨_, rfl⟩
  rw [← hn] at hal hasm HR ⊢
  have HN := Lib.hid hn
  clear ha hb hn
  go_enter Try.func3, Try.ntmps3
  go_wp2_with fail
  refine (law15_alive w).mono ?_
  rintro e w1 ⟨rfl, hb⟩
  have HB1 := Lib.hid hb
  clear hb
  by_cases hbig : 1000 < b.length
  · have d1 : decide ((b.length : Int) > 1000) = true := decide_eq_true (by omega)
    go_wp2_with fail
    refine (law15_alive w1).mono ?_
    rintro e w2 ⟨rfl, hb2⟩
    have HB2 := Lib.hid (HB1.out.trans (hb2.mono HB1.out.size))
    clear hb2
    go_wp2
    go_ret
    exact ⟨rfl, HB2.out⟩
  have d1 : decide ((b.length : Int) > 1000) = false := decide_eq_false (by omega)
  have HL0 := Lib.hid (show b.length ≤ 1000 from by omega)
  clear hbig
  go_wp2_with fail
  refine (law15_great _ ts w1 (HR.out w1 HB1.out)).mono ?_
  rintro e w2 ⟨hb, rfl⟩
  have HB2 := Lib.hid (HB1.out.trans (hb.mono HB1.out.size))
  clear hb HB1
  by_cases hbig : 200 < ts.length ∨ 5000 < datas ts
  · rw [decide_eq_true hbig]
    go_wp2_with fail
    refine (law15_alive w2).mono ?_
    rintro e w4 ⟨rfl, hb⟩
    have HB4 := Lib.hid (HB2.out.trans (hb.mono HB2.out.size))
    clear hb
    go_wp2
    go_ret
    exact ⟨rfl, HB4.out⟩
  rw [decide_eq_false hbig]
  have HL := Lib.hid (show n ≤ 200 ∧ datas ts ≤ 5000 from by have := HN.out; omega)
  have NW := Lib.hid (disk_New _ b w2 (HB.out w2 HB2.out) (by have := HL0.out; omega))
  clear hbig
  go_wp2_with fail
  refine NW.out.mono ?_
  rintro e w3 ⟨g, v, rfl, hd, hb⟩
  have hn4 := (Below.refl w3.heap.size w3).alloc (Nat.le_refl _) (.cells #[.slice ba b.length bc, .slice none 0 0, .int .i64 0] 30)
  have HB4 := Lib.hid (HB2.out.trans ((hb.trans (hn4.mono hb.size)).mono HB2.out.size))
  have HD4 := Lib.hid ((hd.later hn4).base_le15 HB2.out.size)
  have hq3 : ∀ q, DskQ g v q → w2.heap.size ≤ q ∧ q < w3.heap.size := fun q hq => hd.q hq
  have HM4 := Lib.hid (show Mdk (w3.alloc (.cells #[.slice ba b.length bc, .slice none 0 0, .int .i64 0] 30)) w.heap.size w3.heap.size b [] 0 (DskQ g v) from by
    refine ⟨by have h1 := HB2.out.size; have h2 := hb.size; omega, fun hq => by have := (hq3 _ hq).2; omega, by have := HL0.out; simp; omega, by omega, _, _, heap_alloc_new _ _, ?_, OffB.nil _ _⟩
    refine (((HB.out w2 HB2.out).off (Q := fun q => q = w3.heap.size ∨ DskQ g v q) fun j hj hq => ?_).later hb).later hn4
    have h2 := hb.size
    rcases hq with hq | hq
    · omega
    · have := (hq3 j hq).1; omega)
  obtain ⟨gm, hgm⟩ : ∃ gm, gm = w3.heap.size := ⟨_, rfl⟩
  rw [← hgm] at HM4
  have HGM := Lib.hid hgm
  clear hd hb hn4 hq3 NW HB2 hgm
  go_wp2
  rw [← HGM.out]
  go_loopw [30] (fun i wr => ∃ (k : Nat) (vd : Value) (s r : List UInt8) (c : Nat), k ≤ n ∧ i = .int .i64 k ∧ Hid (Dsk wr w.heap.size g vd (s ++ r) s.length c) ∧ Hid (Mdk wr w.heap.size gm s r c (DskQ g vd)) ∧ Hid ((s ++ r).length ≤ 1000 + datas (ts.take k) ∧ c ≤ k) ∧ Hid (Below w.heap.size w wr)) (fun i _ => n - (intOf i).toNat)
  case atStart => exact ⟨0, v, b, [], 0, by omega, rfl, by rw [List.append_nil]; exact HD4, HM4, Lib.hid ⟨by rw [List.append_nil]; have := HL0.out; omega, by omega⟩, HB4⟩
  case round =>
    clear HD4 HM4 HB4
    obtain ⟨k, vd, s, r, c, hk, rfl, HD, HM, HP, HBW⟩ := hrel
    by_cases hlt : k < n
    · have hkt : k < ts.length := by rw [← HN.out]; exact hlt
      obtain ⟨bx, o, hidx, e0, e1, e2, _⟩ := (HR.out _ HBW.out).get hkt
      obtain ⟨hrd, hb0, hb1⟩ := (HR.out w (Below.refl _ _)).each _ (List.getElem_mem hkt)
      have hst := datas_take hkt
      have hdo := datas_one hkt
      obtain ⟨t, ht⟩ : ∃ t, t = ts[k] := ⟨_, rfl⟩
      rw [← ht] at e0 e1 e2 hrd hst hb0 hb1 hdo
      obtain ⟨tv, t0, t1, tl⟩ := t
      dsimp only at e0 e1 e2 hrd hst hb0 hb1 hdo
      obtain ⟨ta, tc, rfl, _⟩ := hrd.shape
      have HT := Lib.hid hrd
      have HS := Lib.hid (And.intro hst hdo)
      have HK1 := Lib.hid hb1
      obtain ⟨m, hm⟩ : ∃ m, m = tl.length := ⟨_, rfl⟩
      rw [← hm] at e2 HT
      have HMM := Lib.hid hm
      have hn4 := (Below.refl wr.heap.size wr).alloc (Nat.le_refl _) (.cells #[.int .i64 t0, .int .i64 t1, .slice ta m tc] 32)
      have hx5 := heap_alloc_new wr (.cells #[.int .i64 t0, .int .i64 t1, .slice ta m tc] 32)
      have HB5 := Lib.hid (HBW.out.trans (hn4.mono HBW.out.size))
      have HD5 := Lib.hid (HD.out.later hn4)
      have HM5 := Lib.hid (HM.out.later hn4)
      have HQ5 := Lib.hid (show ∀ q, (DskQ g vd q ∨ q = gm) → q < wr.heap.size from fun q hq => hq.elim (fun h => (HD.out.q h).2) fun e => by rw [e]; exact HM.out.lt)
      obtain ⟨w5, hw5⟩ : ∃ w5, w5 = wr.alloc (.cells #[.int .i64 t0, .int .i64 t1, .slice ta m tc] 32) := ⟨_, rfl⟩
      obtain ⟨eb, heb⟩ : ∃ eb, eb = wr.heap.size := ⟨_, rfl⟩
      rw [← hw5, ← heb] at hx5
      rw [← hw5] at HB5 HD5 HM5
      have HX5 := Lib.hid hx5
      have x0 : w5.cell? ⟨eb, 0, none⟩ = some (.int .i64 t0) := by rw [cell_of_row _ _ _ _ _ _ hx5]; rfl
      have x1 : w5.cell? ⟨eb, 1, none⟩ = some (.int .i64 t1) := by rw [cell_of_row _ _ _ _ _ _ hx5]; rfl
      have x2 : w5.cell? ⟨eb, 2, none⟩ = some (.slice ta m tc) := by rw [cell_of_row _ _ _ _ _ _ hx5]; rfl
      have HE5 := Lib.hid (show ∀ q, (DskQ g vd q ∨ q = gm) → ¬ q = eb from fun q hq e => by have := HQ5.out q hq; omega)
      have HEB := Lib.hid (And.intro hw5 heb)
      clear hkt hrd hst hdo ht hb0 hb1 hm hn4 HD HM HBW hx5 HQ5 hw5 heb
      by_cases h0 : t0 = 0
      · subst h0
        go_wp2_with fail
        rw [← HEB.out.1, ← HEB.out.2]
        obtain ⟨msv, mrv, hbm, hsm, hrm⟩ := HM5.out.box
        obtain ⟨sa, sc, rfl, _⟩ := hsm.1.shape
        obtain ⟨ra, rc, rfl, _⟩ := hrm.1.shape
        have hgl := HM5.out.lt
        have hel := (Array.getElem?_eq_some_iff.1 HX5.out).1
        have hX1 : Only (fun j => w5.heap.size ≤ j) w5 (w5.drew.alloc (.cells #[] 5)) := (Only.refl _ _).drew.alloc _
        have RS := Lib.hid (fun wz (hz : Only (fun j => w5.heap.size ≤ j) w5 wz) => (hsm.keep (w' := wz) fun j h1 _ => hz.block j h1 (by omega)))
        have RR := Lib.hid (fun wz (hz : Only (fun j => w5.heap.size ≤ j) w5 wz) => (hrm.keep (w' := wz) fun j h1 _ => hz.block j h1 (by omega)).1)
        have RT := Lib.hid (fun wz (hz : Only (fun j => w5.heap.size ≤ j) w5 wz) => (HT.out.later (HB5.out.trans (hz.toBelow (fun j h => by have := HB5.out.size; omega) HB5.out.size)) (Nat.le_refl _)))
        have BX := Lib.hid (fun wz (hz : Only (fun j => w5.heap.size ≤ j) w5 wz) => (hz.block gm hgl (by omega)).trans hbm)
        have CB := Lib.hid (fun wz (hz : Only (fun j => w5.heap.size ≤ j) w5 wz) => show wz.cell? ⟨gm, 1, none⟩ = some (.slice ra r.length rc) ∧ wz.frozen? ⟨gm, 1, none⟩ = false ∧ wz.cell? ⟨eb, 2, none⟩ = some (.slice ta m tc) from by
          have h1 := BX.out wz hz
          have h2 := (hz.block eb hel (by omega)).trans HX5.out
          refine ⟨?_, frozen_of_row _ _ _ _ _ h1, ?_⟩
          · rw [cell_of_row _ _ _ _ _ _ h1]; rfl
          · rw [cell_of_row _ _ _ _ _ _ h2]; rfl)
        have L1 := fun x : OrdR.GW (Only (fun j => w5.heap.size ≤ j)) w5.drew => (CB.out x.val ((Only.refl _ w5).drew.trans x.grew)).1
        have L2 := fun x : OrdR.GW (Only (fun j => w5.heap.size ≤ j)) w5.drew => (CB.out x.val ((Only.refl _ w5).drew.trans x.grew)).2.2
        have E1 := Lib.hid (show Own (w5.drew.alloc (.cells #[] 5)) w5.heap.size (.slice (some ⟨w5.heap.size, 0, none⟩) 0 0) [] from own_empty w5.drew w5.heap.size (Nat.le_refl _))
        have RR1 := Lib.hid (RR.out _ hX1)
        have hrl : r.length ≤ 100000000 := by have := HM5.out.small; omega
        have htl : tl.length ≤ 5000 := by have := HS.out.2; have := HL.out.2; omega
        have hsr : s.length + (r ++ tl).length ≤ 100000000 := by
          have h1 := HP.out.1
          have h2 := HS.out.2
          have h3 := HL.out.2
          simp only [List.length_append] at h1 ⊢
          omega
        have HSR := Lib.hid (And.intro hrl (And.intro htl hsr))
        have HX1 := Lib.hid hX1
        clear hbm hsm hrm hgl hel x0 x1 x2 hX1 hrl htl hsr
        refine OrdZ.wp_region_ord (R := Only (fun j => w5.heap.size ≤ j)) (way15 _) [(0, false), (2, false), (3, false), (4, false), (5, false), (7, false), (8, false), (1, true), (6, true), (9, true), (10, false), (11, false), (12, true)] 12 20 (by kernel_rfl) (by kernel_rfl) rfl (by kernel_rfl) (by kernel_rfl) (fun _ _ _ d _ h => by cases d <;> exact h) ?_
        refine OrdZ.ord_still (by decide) rfl rfl (by kernel_rfl) (fun K hK => ?_)
        go_big_quiet_op
        refine hK _ ?_; clear hK K
        refine OrdZ.ord_still (by decide) rfl rfl (by kernel_rfl) (fun K hK => ?_)
        go_big_quiet_op
        refine hK _ ?_; clear hK K
        refine OrdZ.ord_still (by decide) rfl rfl (by kernel_rfl) (fun K hK => ?_)
        go_big_quiet_op
        refine hK _ ?_; clear hK K
        refine OrdZ.ord_still (by decide) rfl rfl (by kernel_rfl) (fun K hK => ?_)
        go_big_quiet_op
        refine hK _ ?_; clear hK K
        refine OrdZ.ord_still (by decide) rfl rfl (by kernel_rfl) (fun K hK => ?_)
        go_big_quiet_op
        refine hK _ ?_; clear hK K
        refine OrdZ.ord_still (by decide) rfl rfl (by kernel_rfl) (fun K hK => ?_)
        go_big_quiet_op
        refine hK _ ?_; clear hK K
        refine OrdZ.ord_still (by decide) rfl rfl (by kernel_rfl) (fun K hK => ?_)
        go_big_quiet_op
        refine hK _ ?_; clear hK K
        refine OrdZ.ord_loud rfl (by kernel_rfl) (fun K hK => ?_)
        go_big_op
        refine hK _ _ (Only.later15 ((Below.refl _ _).alloc (Nat.le_refl _) _)) ?_
        clear hK K
        refine OrdZ.ord_loud rfl (by kernel_rfl) (fun K hK => ?_)
        refine opB_append w5.heap.size _ [] rfl E1.out _ r rfl RR1.out ?hn1 ?hb1 (fun v2 wa h1 h2 => hK _ _ h2 ?_)
        case hn1 => have := HSR.out.1; simp; omega
        case hb1 => simp
        rw [List.nil_append] at h1
        obtain ⟨a2, n2, rfl, _⟩ := h1.tor.lit
        have HO2 := Lib.hid h1
        have HX2 := Lib.hid (HX1.out.trans h2)
        simp only [Act.put, List.setIfInBounds_toArray, List.set_cons_zero, List.set_cons_succ]
        clear h1 h2
        clear hK K
        refine OrdZ.ord_loud rfl (by kernel_rfl) (fun K hK => ?_)
        refine opB_append w5.heap.size _ r rfl HO2.out _ tl rfl (RT.out _ HX2.out) ?hn2 ?hb2 (fun v3 wb h1 h2 => hK _ _ h2 ?_)
        case hn2 => have := HSR.out; omega
        case hb2 => exact HX2.out.size
        obtain ⟨a3, n3, rfl, _⟩ := h1.tor.lit
        rw [List.length_append] at h1 ⊢
        have HO3 := Lib.hid h1
        have HX3 := Lib.hid (HX2.out.trans h2)
        have e := (CB.out wb HX3.out).1
        have f1 := (CB.out wb HX3.out).2.1
        simp only [Act.put, List.setIfInBounds_toArray, List.set_cons_zero, List.set_cons_succ]
        clear h1 h2 HO2 HX2
        clear hK K
        refine OrdZ.ord_still (by decide) rfl rfl (by kernel_rfl) (fun K hK => ?_)
        go_big_quiet_op
        refine hK _ ?_; clear hK K
        refine OrdZ.ord_still (by decide) rfl rfl (by kernel_rfl) (fun K hK => ?_)
        go_big_quiet_op
        refine hK _ ?_; clear hK K
        refine OrdZ.ord_last rfl (by kernel_rfl) (fun K hK => ?_)
        go_big_op
        refine hK _ _ ?_; clear hK K
        have hO4 : Only (fun j => j = gm) wb (wb.setCell ⟨gm, 1, none⟩ (.slice a3 (r.length + tl.length) n3)) := (Only.refl (fun j => j = gm) _).setCell (p := ⟨gm, 1, none⟩) rfl _
        have hM6 := mdk_put HM5.out (fun j hj => (HD5.out.q hj).2) HX3.out hO4 (block_setCell (BX.out wb HX3.out) _) ((RS.out wb HX3.out).only hO4 fun j h => .inl h) ((HO3.out.off (by have := HSR.out.2.2; rw [List.length_append] at this ⊢; omega) fun j h1 h2 => by
          rcases h2 with h2 | h2
          · have := HM5.out.lt; omega
          · have := (HD5.out.q h2).2; omega).only hO4 fun j h => .inl h) HSR.out.2.2 HM5.out.few
        obtain ⟨w6, hw6⟩ : ∃ w6, w6 = wb.setCell ⟨gm, 1, none⟩ (.slice a3 (r.length + tl.length) n3) := ⟨_, rfl⟩
        rw [← hw6] at hM6 ⊢
        have HM6 := Lib.hid hM6.1
        have HD6 := Lib.hid (HD5.out.only hM6.2 fun q hq e => HM5.out.away (by rw [← e]; exact hq))
        have HB6 := Lib.hid (HB5.out.trans (hM6.2.toBelow (fun j h => by rw [h]; exact HM5.out.from_) HB5.out.size))
        have hx6 := hM6.2.keep HX5.out (fun e => HE5.out gm (.inr rfl) e.symm)
        have x2 : w6.cell? ⟨eb, 2, none⟩ = some (.slice ta m tc) := by rw [cell_of_row _ _ _ _ _ _ hx6]; rfl
        have AP := Lib.hid (disk_Append w.heap.size g vd (s ++ r) s.length c _ tl w6 HD6.out (HT.out.later HB6.out (Nat.le_refl _)) (by have := HSR.out.2.2; simp only [List.length_append] at this ⊢; omega))
        clear hO4 hM6 hw6 hx6 RS RR RT BX CB E1 RR1 HX1 HX3 HO3 HD5 HM5 HB5 e f1
        go_wp2_with fail
        refine AP.out.mono ?_
        rintro e w7 ⟨rfl, v7, hd, hO, hp⟩
        rw [List.append_assoc] at hd
        have HBZ := Lib.hid (HB6.out.trans (HD6.out.below hO))
        have HDZ := Lib.hid hd
        have HMZ := Lib.hid (mdk_turn HM6.out hO hp)
        have HPZ := Lib.hid (show (s ++ (r ++ tl)).length ≤ 1000 + datas (ts.take (k + 1)) ∧ c ≤ k + 1 from by
          have h1 := HP.out
          rw [HS.out.1]
          simp only [List.length_append] at h1 ⊢
          omega)
        clear hd hO hp AP HB6 HD6 HM6 HP HX5 x2 HSR
        obtain ⟨rz, hrz⟩ : ∃ rz, rz = r ++ tl := ⟨_, rfl⟩
        rw [← hrz] at HDZ HMZ HPZ
        clear hrz
        obtain ⟨msv, mrv, hbm, hsm, hrm⟩ := HMZ.out.box
        obtain ⟨sa, sc, rfl, _⟩ := hsm.1.shape
        have hml := hsm.1.len
        have MBX := Lib.hid (fun wz (hz : Below w7.heap.size w7 wz) => (hz.block gm HMZ.out.lt).trans hbm)
        have BYZ := Lib.hid (disk_Bytes _ _ _ _ _ _ _ (HDZ.out.later (Below.refl w7.heap.size w7).drew))
        have hlz : (s ++ rz).length ≤ 140737488351232 := by have := HDZ.out.small; omega
        have HLZ := Lib.hid hlz
        obtain ⟨lz, hlzz⟩ : ∃ lz, lz = s ++ rz := ⟨_, rfl⟩
        have HZZ := Lib.hid hlzz
        have M0 := fun x : OrdR.GW (Only (fun _ => False)) w7.drew => show x.val.cell? ⟨gm, 0, none⟩ = some (.slice sa s.length sc) from by rw [cell_of_row _ _ _ _ _ _ (MBX.out x.val (((Only.refl (fun _ => False) w7).drew.trans x.grew).toBelow (fun q hq => hq.elim) (Nat.le_refl _)))]; rfl
        have M2 := fun x : OrdR.GW (Only (fun _ => False)) w7.drew => show x.val.cell? ⟨gm, 2, none⟩ = some (.int .i64 (c : Nat)) from by rw [cell_of_row _ _ _ _ _ _ (MBX.out x.val (((Only.refl (fun _ => False) w7).drew.trans x.grew).toBelow (fun q hq => hq.elim) (Nat.le_refl _)))]; rfl
        clear hbm hsm hrm hlz hlzz
        go_wp2_with fail
        refine OrdR.wp_region_ord (R := Only (fun _ => False)) (way15 _) [(0, false), (3, false), (1, true), (2, false), (4, true), (5, false), (6, false), (7, false), (8, false), (10, false), (11, false), (12, false), (13, false), (14, false), (9, true), (15, false), (16, false), (17, false), (18, false), (20, false), (21, false), (22, false), (23, false), (19, true), (24, false), (25, false)] (by kernel_rfl) rfl (by kernel_rfl) (by kernel_rfl) (fun _ _ _ d _ h => by cases d <;> exact h) ?_
        refine OrdR.ord_still rfl rfl (by kernel_rfl) (fun K hK => ?_)
        go_big_quiet_op
        refine hK _ ?_; clear hK K
        refine OrdR.ord_still rfl rfl (by kernel_rfl) (fun K hK => ?_)
        go_big_quiet_op
        refine hK _ ?_; clear hK K
        refine OrdR.ord_loud rfl (by kernel_rfl) (fun K hK => ?_)
        go_big_op
        refine BYZ.out.mono ?_
        rintro e wb ⟨vb, rfl, ho, hb⟩
        refine hK _ _ (Only.later15 hb) ?_
        obtain ⟨ab, nb, rfl, _⟩ := ho.tor.lit
        have HYB := Lib.hid ((Below.refl w7.heap.size w7).drew.trans hb)
        have hstb := fun x : OrdR.GW (Only (fun _ => False)) wb => (((ho.off (Q := fun _ => False) HLZ.out fun _ _ h => h).only x.grew fun j h => h).1).str
        rw [← HZZ.out] at hstb ⊢
        have RBY := Lib.hid (ref_Bytes15 _ _ _ _ _ _ wb (HMZ.out.later HYB.out))
        clear ho hb BYZ
        clear hK K
        refine OrdR.ord_still rfl rfl (by kernel_rfl) (fun K hK => ?_)
        go_big_quiet_op
        refine hK _ ?_; clear hK K
        refine OrdR.ord_loud rfl (by kernel_rfl) (fun K hK => ?_)
        go_big_op
        refine RBY.out.mono ?_
        rintro e wc ⟨vc, rfl, ho, hb⟩
        refine hK _ _ (Only.later15 hb) ?_
        obtain ⟨ac9, nc, rfl, _⟩ := ho.tor.lit
        have HYC := Lib.hid (HYB.out.trans (hb.mono HYB.out.size))
        have hstc := fun x : OrdR.GW (Only (fun _ => False)) wc => (((ho.off (Q := fun _ => False) HLZ.out fun _ _ h => h).only x.grew fun j h => h).1).str
        rw [← HZZ.out] at hstc ⊢
        have HDC := Lib.hid (HDZ.out.later HYC.out)
        have SAZ := Lib.hid (disk_Safe _ _ _ _ _ _ _ HDC.out)
        have CSZ := Lib.hid (disk_Crashes _ _ _ _ _ _ _ HDC.out)
        have M0c := fun x : OrdR.GW (Only (fun _ => False)) wc => show x.val.cell? ⟨gm, 0, none⟩ = some (.slice sa s.length sc) from by rw [cell_of_row _ _ _ _ _ _ (MBX.out x.val (HYC.out.trans (x.grew.toBelow (fun q hq => hq.elim) HYC.out.size)))]; rfl
        have M2c := fun x : OrdR.GW (Only (fun _ => False)) wc => show x.val.cell? ⟨gm, 2, none⟩ = some (.int .i64 (c : Nat)) from by rw [cell_of_row _ _ _ _ _ _ (MBX.out x.val (HYC.out.trans (x.grew.toBelow (fun q hq => hq.elim) HYC.out.size)))]; rfl
        have HMC := Lib.hid (HMZ.out.later HYC.out)
        have HBC := Lib.hid (HBZ.out.trans (HYC.out.mono HBZ.out.size))
        clear ho hb RBY HYB HYC HDZ HMZ HBZ M0 M2 MBX
        clear hK K
        refine OrdR.ord_still rfl rfl (by kernel_rfl) (fun K hK => ?_)
        go_big_quiet_op
        refine hK _ ?_; clear hK K
        refine OrdR.ord_still rfl rfl (by kernel_rfl) (fun K hK => ?_)
        go_big_quiet_op
        refine hK _ ?_; clear hK K
        refine OrdR.ord_still rfl rfl (by kernel_rfl) (fun K hK => ?_)
        go_big_quiet_op
        refine hK _ ?_; clear hK K
        refine OrdR.ord_still rfl rfl (by kernel_rfl) (fun K hK => ?_)
        go_big_quiet_op
        refine hK _ ?_; clear hK K
        refine OrdR.ord_still rfl rfl (by kernel_rfl) (fun K hK => ?_)
        go_big_quiet_op
        refine hK _ ?_; clear hK K
        refine OrdR.ord_still rfl rfl (by kernel_rfl) (fun K hK => ?_)
        go_big_quiet_op
        refine hK _ ?_; clear hK K
        refine OrdR.ord_still rfl rfl (by kernel_rfl) (fun K hK => ?_)
        go_big_quiet_op
        refine hK _ ?_; clear hK K
        refine OrdR.ord_still rfl rfl (by kernel_rfl) (fun K hK => ?_)
        go_big_quiet_op
        refine hK _ ?_; clear hK K
        refine OrdR.ord_still rfl rfl (by kernel_rfl) (fun K hK => ?_)
        go_big_quiet_op
        refine hK _ ?_; clear hK K
        refine OrdR.ord_loud rfl (by kernel_rfl) (fun K hK => ?_)
        go_big_op
        refine SAZ.out.mono ?_
        rintro e wz ⟨rfl, hz⟩
        rw [hz]
        clear hz wz
        refine hK _ _ (Only.refl _ _) ?_
        clear SAZ
        clear hK K
        refine OrdR.ord_still rfl rfl (by kernel_rfl) (fun K hK => ?_)
        go_big_quiet_op
        refine hK _ ?_; clear hK K
        refine OrdR.ord_still rfl rfl (by kernel_rfl) (fun K hK => ?_)
        go_big_quiet_op
        refine hK _ ?_; clear hK K
        refine OrdR.ord_still rfl rfl (by kernel_rfl) (fun K hK => ?_)
        go_big_quiet_op
        refine hK _ ?_; clear hK K
        refine OrdR.ord_still rfl rfl (by kernel_rfl) (fun K hK => ?_)
        go_big_quiet_op
        refine hK _ ?_; clear hK K
        refine OrdR.ord_still rfl rfl (by kernel_rfl) (fun K hK => ?_)
        go_big_quiet_op
        refine hK _ ?_; clear hK K
        refine OrdR.ord_still rfl rfl (by kernel_rfl) (fun K hK => ?_)
        go_big_quiet_op
        refine hK _ ?_; clear hK K
        refine OrdR.ord_still rfl rfl (by kernel_rfl) (fun K hK => ?_)
        go_big_quiet_op
        refine hK _ ?_; clear hK K
        refine OrdR.ord_still rfl rfl (by kernel_rfl) (fun K hK => ?_)
        go_big_quiet_op
        refine hK _ ?_; clear hK K
        refine OrdR.ord_loud rfl (by kernel_rfl) (fun K hK => ?_)
        go_big_op
        refine CSZ.out.mono ?_
        rintro e wz ⟨rfl, hz⟩
        rw [hz]
        clear hz wz
        refine hK _ _ (Only.refl _ _) ?_
        clear CSZ
        clear hK K
        refine OrdR.ord_still rfl rfl (by kernel_rfl) (fun K hK => ?_)
        go_big_quiet_op
        refine hK _ ?_; clear hK K
        refine OrdR.ord_still rfl rfl (by kernel_rfl) (fun K hK => ?_)
        go_big_quiet_op
        refine hK _ ?_; clear hK K
        refine OrdR.ord_nil ?_
        go_wp2
        go_roundw
        case rel => exact ⟨k + 1, v7, s, rz, c, by omega, by go_num, HDC, HMC, HPZ, HBC⟩
        case measure => simp [intOf]; omega
      by_cases h1 : t0 = 1
      · subst h1
        have RY := Lib.hid (ref_Sync15 w.heap.size gm s r c (DskQ g vd) w5 HM5.out fun j hj => (HD5.out.q hj).2)
        go_wp2_with fail
        rw [← HEB.out.1]
        refine RY.out.mono ?_
        rintro e w6 ⟨rfl, hm, hO⟩
        have HM6 := Lib.hid hm
        have HD6 := Lib.hid (HD5.out.only hO fun q hq e => HM5.out.away (by rw [← e]; exact hq))
        have HB6 := Lib.hid (HB5.out.trans (hO.toBelow (fun j h => by rw [h]; exact HM5.out.from_) HB5.out.size))
        have SY := Lib.hid (disk_Sync w.heap.size g vd (s ++ r) s.length c w6 HD6.out)
        clear hm hO RY HD5 HM5 HB5 x0 x1 x2 HX5
        go_wp2_with fail
        refine SY.out.mono ?_
        rintro e w7 ⟨rfl, v7, hd, hO, hp⟩
        have HBZ := Lib.hid (HB6.out.trans (HD6.out.below hO))
        obtain ⟨sz, hsz⟩ : ∃ sz, sz = s ++ r := ⟨_, rfl⟩
        have HDZ := Lib.hid (show Dsk w7 w.heap.size g v7 (sz ++ []) sz.length c from by rw [List.append_nil, hsz]; exact hd)
        have HMZ := Lib.hid (show Mdk w7 w.heap.size gm sz [] c (DskQ g v7) from by rw [hsz]; exact mdk_turn HM6.out hO hp)
        have HPZ := Lib.hid (show (sz ++ ([] : List UInt8)).length ≤ 1000 + datas (ts.take (k + 1)) ∧ c ≤ k + 1 from by
          have h1 := HP.out
          rw [HS.out.1, List.append_nil, hsz]
          omega)
        clear hd hO hp SY HB6 HD6 HM6 HP hsz
        obtain ⟨rz, hrz⟩ : ∃ rz : List UInt8, rz = [] := ⟨_, rfl⟩
        rw [← hrz] at HDZ HMZ HPZ
        clear hrz
        obtain ⟨msv, mrv, hbm, hsm, hrm⟩ := HMZ.out.box
        obtain ⟨sa, sc, rfl, _⟩ := hsm.1.shape
        have hml := hsm.1.len
        have MBX := Lib.hid (fun wz (hz : Below w7.heap.size w7 wz) => (hz.block gm HMZ.out.lt).trans hbm)
        have BYZ := Lib.hid (disk_Bytes _ _ _ _ _ _ _ (HDZ.out.later (Below.refl w7.heap.size w7).drew))
        have hlz : (sz ++ rz).length ≤ 140737488351232 := by have := HDZ.out.small; omega
        have HLZ := Lib.hid hlz
        obtain ⟨lz, hlzz⟩ : ∃ lz, lz = sz ++ rz := ⟨_, rfl⟩
        have HZZ := Lib.hid hlzz
        have M0 := fun x : OrdR.GW (Only (fun _ => False)) w7.drew => show x.val.cell? ⟨gm, 0, none⟩ = some (.slice sa sz.length sc) from by rw [cell_of_row _ _ _ _ _ _ (MBX.out x.val (((Only.refl (fun _ => False) w7).drew.trans x.grew).toBelow (fun q hq => hq.elim) (Nat.le_refl _)))]; rfl
        have M2 := fun x : OrdR.GW (Only (fun _ => False)) w7.drew => show x.val.cell? ⟨gm, 2, none⟩ = some (.int .i64 (c : Nat)) from by rw [cell_of_row _ _ _ _ _ _ (MBX.out x.val (((Only.refl (fun _ => False) w7).drew.trans x.grew).toBelow (fun q hq => hq.elim) (Nat.le_refl _)))]; rfl
        clear hbm hsm hrm hlz hlzz
        go_wp2_with fail
        refine OrdR.wp_region_ord (R := Only (fun _ => False)) (way15 _) [(0, false), (3, false), (1, true), (2, false), (4, true), (5, false), (6, false), (7, false), (8, false), (10, false), (11, false), (12, false), (13, false), (14, false), (9, true), (15, false), (16, false), (17, false), (18, false), (20, false), (21, false), (22, false), (23, false), (19, true), (24, false), (25, false)] (by kernel_rfl) rfl (by kernel_rfl) (by kernel_rfl) (fun _ _ _ d _ h => by cases d <;> exact h) ?_
        refine OrdR.ord_still rfl rfl (by kernel_rfl) (fun K hK => ?_)
        go_big_quiet_op
        refine hK _ ?_; clear hK K
        refine OrdR.ord_still rfl rfl (by kernel_rfl) (fun K hK => ?_)
        go_big_quiet_op
        refine hK _ ?_; clear hK K
        refine OrdR.ord_loud rfl (by kernel_rfl) (fun K hK => ?_)
        go_big_op
        refine BYZ.out.mono ?_
        rintro e wb ⟨vb, rfl, ho, hb⟩
        refine hK _ _ (Only.later15 hb) ?_
        obtain ⟨ab, nb, rfl, _⟩ := ho.tor.lit
        have HYB := Lib.hid ((Below.refl w7.heap.size w7).drew.trans hb)
        have hstb := fun x : OrdR.GW (Only (fun _ => False)) wb => (((ho.off (Q := fun _ => False) HLZ.out fun _ _ h => h).only x.grew fun j h => h).1).str
        rw [← HZZ.out] at hstb ⊢
        have RBY := Lib.hid (ref_Bytes15 _ _ _ _ _ _ wb (HMZ.out.later HYB.out))
        clear ho hb BYZ
        clear hK K
        refine OrdR.ord_still rfl rfl (by kernel_rfl) (fun K hK => ?_)
        go_big_quiet_op
        refine hK _ ?_; clear hK K
        refine OrdR.ord_loud rfl (by kernel_rfl) (fun K hK => ?_)
        go_big_op
        refine RBY.out.mono ?_
        rintro e wc ⟨vc, rfl, ho, hb⟩
        refine hK _ _ (Only.later15 hb) ?_
        obtain ⟨ac9, nc, rfl, _⟩ := ho.tor.lit
        have HYC := Lib.hid (HYB.out.trans (hb.mono HYB.out.size))
        have hstc := fun x : OrdR.GW (Only (fun _ => False)) wc => (((ho.off (Q := fun _ => False) HLZ.out fun _ _ h => h).only x.grew fun j h => h).1).str
        rw [← HZZ.out] at hstc ⊢
        have HDC := Lib.hid (HDZ.out.later HYC.out)
        have SAZ := Lib.hid (disk_Safe _ _ _ _ _ _ _ HDC.out)
        have CSZ := Lib.hid (disk_Crashes _ _ _ _ _ _ _ HDC.out)
        have M0c := fun x : OrdR.GW (Only (fun _ => False)) wc => show x.val.cell? ⟨gm, 0, none⟩ = some (.slice sa sz.length sc) from by rw [cell_of_row _ _ _ _ _ _ (MBX.out x.val (HYC.out.trans (x.grew.toBelow (fun q hq => hq.elim) HYC.out.size)))]; rfl
        have M2c := fun x : OrdR.GW (Only (fun _ => False)) wc => show x.val.cell? ⟨gm, 2, none⟩ = some (.int .i64 (c : Nat)) from by rw [cell_of_row _ _ _ _ _ _ (MBX.out x.val (HYC.out.trans (x.grew.toBelow (fun q hq => hq.elim) HYC.out.size)))]; rfl
        have HMC := Lib.hid (HMZ.out.later HYC.out)
        have HBC := Lib.hid (HBZ.out.trans (HYC.out.mono HBZ.out.size))
        clear ho hb RBY HYB HYC HDZ HMZ HBZ M0 M2 MBX
        clear hK K
        refine OrdR.ord_still rfl rfl (by kernel_rfl) (fun K hK => ?_)
        go_big_quiet_op
        refine hK _ ?_; clear hK K
        refine OrdR.ord_still rfl rfl (by kernel_rfl) (fun K hK => ?_)
        go_big_quiet_op
        refine hK _ ?_; clear hK K
        refine OrdR.ord_still rfl rfl (by kernel_rfl) (fun K hK => ?_)
        go_big_quiet_op
        refine hK _ ?_; clear hK K
        refine OrdR.ord_still rfl rfl (by kernel_rfl) (fun K hK => ?_)
        go_big_quiet_op
        refine hK _ ?_; clear hK K
        refine OrdR.ord_still rfl rfl (by kernel_rfl) (fun K hK => ?_)
        go_big_quiet_op
        refine hK _ ?_; clear hK K
        refine OrdR.ord_still rfl rfl (by kernel_rfl) (fun K hK => ?_)
        go_big_quiet_op
        refine hK _ ?_; clear hK K
        refine OrdR.ord_still rfl rfl (by kernel_rfl) (fun K hK => ?_)
        go_big_quiet_op
        refine hK _ ?_; clear hK K
        refine OrdR.ord_still rfl rfl (by kernel_rfl) (fun K hK => ?_)
        go_big_quiet_op
        refine hK _ ?_; clear hK K
        refine OrdR.ord_still rfl rfl (by kernel_rfl) (fun K hK => ?_)
        go_big_quiet_op
        refine hK _ ?_; clear hK K
        refine OrdR.ord_loud rfl (by kernel_rfl) (fun K hK => ?_)
        go_big_op
        refine SAZ.out.mono ?_
        rintro e wz ⟨rfl, hz⟩
        rw [hz]
        clear hz wz
        refine hK _ _ (Only.refl _ _) ?_
        clear SAZ
        clear hK K
        refine OrdR.ord_still rfl rfl (by kernel_rfl) (fun K hK => ?_)
        go_big_quiet_op
        refine hK _ ?_; clear hK K
        refine OrdR.ord_still rfl rfl (by kernel_rfl) (fun K hK => ?_)
        go_big_quiet_op
        refine hK _ ?_; clear hK K
        refine OrdR.ord_still rfl rfl (by kernel_rfl) (fun K hK => ?_)
        go_big_quiet_op
        refine hK _ ?_; clear hK K
        refine OrdR.ord_still rfl rfl (by kernel_rfl) (fun K hK => ?_)
        go_big_quiet_op
        refine hK _ ?_; clear hK K
        refine OrdR.ord_still rfl rfl (by kernel_rfl) (fun K hK => ?_)
        go_big_quiet_op
        refine hK _ ?_; clear hK K
        refine OrdR.ord_still rfl rfl (by kernel_rfl) (fun K hK => ?_)
        go_big_quiet_op
        refine hK _ ?_; clear hK K
        refine OrdR.ord_still rfl rfl (by kernel_rfl) (fun K hK => ?_)
        go_big_quiet_op
        refine hK _ ?_; clear hK K
        refine OrdR.ord_still rfl rfl (by kernel_rfl) (fun K hK => ?_)
        go_big_quiet_op
        refine hK _ ?_; clear hK K
        refine OrdR.ord_loud rfl (by kernel_rfl) (fun K hK => ?_)
        go_big_op
        refine CSZ.out.mono ?_
        rintro e wz ⟨rfl, hz⟩
        rw [hz]
        clear hz wz
        refine hK _ _ (Only.refl _ _) ?_
        clear CSZ
        clear hK K
        refine OrdR.ord_still rfl rfl (by kernel_rfl) (fun K hK => ?_)
        go_big_quiet_op
        refine hK _ ?_; clear hK K
        refine OrdR.ord_still rfl rfl (by kernel_rfl) (fun K hK => ?_)
        go_big_quiet_op
        refine hK _ ?_; clear hK K
        refine OrdR.ord_nil ?_
        go_wp2
        go_roundw
        case rel => exact ⟨k + 1, v7, sz, rz, c, by omega, by go_num, HDC, HMC, HPZ, HBC⟩
        case measure => simp [intOf]; omega
      by_cases h2 : t0 = 2
      · subst h2
        have hoff := ((HT.out.off (Q := DskQ g vd) fun j hj hq => by have := (HD5.out.q hq).1; omega).later HB5.out)
        have hc1 : c < 1000000 := by have := HP.out.2; have := HL.out; omega
        have CR := Lib.hid (disk_Crash w.heap.size g vd (s ++ r) s.length c t1 _ tl w5.drew (HD5.out.later (Below.refl _ _).drew) (hoff.later (Below.refl _ _).drew) HK1.out hc1)
        have HC15 := Lib.hid (crash15 (s := s) (r := r) (j := tl) (k := t1) (c := c))
        rw [HC15.out.1] at CR
        obtain ⟨E, hE⟩ : ∃ E, E = crE r.length t1 tl.length := ⟨_, rfl⟩
        have HEE := Lib.hid hE
        rw [← hE] at CR
        have hqe : ((E : Int) != (E : Int)) = false := by simp
        have HCC := Lib.hid hc1
        have XB := Lib.hid (fun wz (hz : Only (fun q => DskQ g vd q ∨ q = gm) w5 wz) => hz.keep HX5.out fun hq => HE5.out eb hq rfl)
        have X1 := fun x : OrdR.GW (Only (fun q => DskQ g vd q ∨ q = gm)) w5.drew => show x.val.cell? ⟨eb, 1, none⟩ = some (.int .i64 t1) from by rw [cell_of_row _ _ _ _ _ _ (XB.out x.val ((Only.refl _ w5).drew.trans x.grew))]; rfl
        have X2 := fun x : OrdR.GW (Only (fun q => DskQ g vd q ∨ q = gm)) w5.drew => show x.val.cell? ⟨eb, 2, none⟩ = some (.slice ta m tc) from by rw [cell_of_row _ _ _ _ _ _ (XB.out x.val ((Only.refl _ w5).drew.trans x.grew))]; rfl
        clear hoff hc1 hE
        go_wp2_with fail
        rw [← HEB.out.1, ← HEB.out.2]
        refine OrdR.wp_region_ord (R := Only (fun q => DskQ g vd q ∨ q = gm)) (way15 _) [(0, false), (1, false), (2, false), (3, false), (4, false), (6, false), (7, false), (8, false), (9, false), (10, false), (5, true), (11, true), (12, false)] (by kernel_rfl) rfl (by kernel_rfl) (by kernel_rfl) (fun _ _ _ d _ h => by cases d <;> exact h) ?_
        refine OrdR.ord_still rfl rfl (by kernel_rfl) (fun K hK => ?_)
        go_big_quiet_op
        refine hK _ ?_; clear hK K
        refine OrdR.ord_still rfl rfl (by kernel_rfl) (fun K hK => ?_)
        go_big_quiet_op
        refine hK _ ?_; clear hK K
        refine OrdR.ord_still rfl rfl (by kernel_rfl) (fun K hK => ?_)
        go_big_quiet_op
        refine hK _ ?_; clear hK K
        refine OrdR.ord_still rfl rfl (by kernel_rfl) (fun K hK => ?_)
        go_big_quiet_op
        refine hK _ ?_; clear hK K
        refine OrdR.ord_still rfl rfl (by kernel_rfl) (fun K hK => ?_)
        go_big_quiet_op
        refine hK _ ?_; clear hK K
        refine OrdR.ord_still rfl rfl (by kernel_rfl) (fun K hK => ?_)
        go_big_quiet_op
        refine hK _ ?_; clear hK K
        refine OrdR.ord_still rfl rfl (by kernel_rfl) (fun K hK => ?_)
        go_big_quiet_op
        refine hK _ ?_; clear hK K
        refine OrdR.ord_still rfl rfl (by kernel_rfl) (fun K hK => ?_)
        go_big_quiet_op
        refine hK _ ?_; clear hK K
        refine OrdR.ord_still rfl rfl (by kernel_rfl) (fun K hK => ?_)
        go_big_quiet_op
        refine hK _ ?_; clear hK K
        refine OrdR.ord_still rfl rfl (by kernel_rfl) (fun K hK => ?_)
        go_big_quiet_op
        refine hK _ ?_; clear hK K
        refine OrdR.ord_loud rfl (by kernel_rfl) (fun K hK => ?_)
        go_big_op
        refine CR.out.mono ?_
        rintro e w6 ⟨rfl, v6, hd, hO, hp⟩
        refine hK _ _ (hO.mono fun q hq => .inl hq) ?_
        have HO6 := Lib.hid ((Only.refl (DskQ g vd) w5).drew.trans hO)
        have HB6 := Lib.hid (HB5.out.trans (HD5.out.below HO6.out))
        have HD6 := Lib.hid hd
        have HM6 := Lib.hid (mdk_turn HM5.out HO6.out hp)
        have RC := Lib.hid (ref_Crash15 w.heap.size gm s r c (DskQ g v6) t1 _ tl w6 HM6.out (fun j hj => (hd.q hj).2) (HT.out.later HB6.out (Nat.le_refl _)) HK1.out HCC.out)
        have X1 := fun x : OrdR.GW (Only (fun q => DskQ g vd q ∨ q = gm)) w6 => show x.val.cell? ⟨eb, 1, none⟩ = some (.int .i64 t1) from by rw [cell_of_row _ _ _ _ _ _ (XB.out x.val ((HO6.out.mono fun q hq => .inl hq).trans x.grew))]; rfl
        have X2 := fun x : OrdR.GW (Only (fun q => DskQ g vd q ∨ q = gm)) w6 => show x.val.cell? ⟨eb, 2, none⟩ = some (.slice ta m tc) from by rw [cell_of_row _ _ _ _ _ _ (XB.out x.val ((HO6.out.mono fun q hq => .inl hq).trans x.grew))]; rfl
        clear hd hO hp CR HB5 HD5 HM5
        clear hK K
        refine OrdR.ord_loud rfl (by kernel_rfl) (fun K hK => ?_)
        go_big_op
        refine RC.out.mono ?_
        rintro e w7 ⟨he, hO, hm⟩
        rw [he, ← HEE.out]
        refine hK _ _ (hO.mono fun q hq => .inr hq) ?_
        have HBZ := Lib.hid (HB6.out.trans (hO.toBelow (fun j h => by rw [h]; exact HM6.out.from_) HB6.out.size))
        have HD7 := Lib.hid (HD6.out.only hO fun q hq e => HM6.out.away (by rw [← e]; exact hq))
        have HMO := Lib.hid hm
        clear hO hm RC HB6 HD6 HM6 HO6 XB he
        clear hK K
        refine OrdR.ord_still rfl rfl (by kernel_rfl) (fun K hK => ?_)
        go_big_quiet_op
        refine hK _ ?_; clear hK K
        refine OrdR.ord_nil ?_
        clear x0 x1 x2
        obtain ⟨sz, rz, cz, HDZ, HMZ, HPZ⟩ : ∃ (sz rz : List UInt8) (cz : Nat), Hid (Dsk w7 w.heap.size g v6 (sz ++ rz) sz.length cz) ∧ Hid (Mdk w7 w.heap.size gm sz rz cz (DskQ g v6)) ∧ Hid ((sz ++ rz).length ≤ 1000 + datas (ts.take (k + 1)) ∧ cz ≤ k + 1) := by
          have hp := HP.out
          rw [HS.out.1]
          rcases HMO.out with ⟨he, hm⟩ | ⟨he, hm⟩
          · obtain ⟨z1, z2, z3⟩ := HC15.out.2.2 he
            have hd := HD7.out
            rw [z1, z2, z3] at hd
            exact ⟨s, r, c, hd, hm, by omega, by omega⟩
          · obtain ⟨z1, z2, z3, z4⟩ := HC15.out.2.1 he
            have hd := HD7.out
            rw [z1, z2, z3] at hd
            refine ⟨s ++ (r.take t1.toNat ++ tl), [], c + 1, hd, hm, ?_, by omega⟩
            have h9 := hp.1
            rw [List.append_nil]
            rw [List.length_append] at h9 ⊢
            omega
        clear HMO HD7 HC15 HEE HCC hqe HP
        obtain ⟨msv, mrv, hbm, hsm, hrm⟩ := HMZ.out.box
        obtain ⟨sa, sc, rfl, _⟩ := hsm.1.shape
        have hml := hsm.1.len
        have MBX := Lib.hid (fun wz (hz : Below w7.heap.size w7 wz) => (hz.block gm HMZ.out.lt).trans hbm)
        have BYZ := Lib.hid (disk_Bytes _ _ _ _ _ _ _ (HDZ.out.later (Below.refl w7.heap.size w7).drew))
        have hlz : (sz ++ rz).length ≤ 140737488351232 := by have := HDZ.out.small; omega
        have HLZ := Lib.hid hlz
        obtain ⟨lz, hlzz⟩ : ∃ lz, lz = sz ++ rz := ⟨_, rfl⟩
        have HZZ := Lib.hid hlzz
        have M0 := fun x : OrdR.GW (Only (fun _ => False)) w7.drew => show x.val.cell? ⟨gm, 0, none⟩ = some (.slice sa sz.length sc) from by rw [cell_of_row _ _ _ _ _ _ (MBX.out x.val (((Only.refl (fun _ => False) w7).drew.trans x.grew).toBelow (fun q hq => hq.elim) (Nat.le_refl _)))]; rfl
        have M2 := fun x : OrdR.GW (Only (fun _ => False)) w7.drew => show x.val.cell? ⟨gm, 2, none⟩ = some (.int .i64 (cz : Nat)) from by rw [cell_of_row _ _ _ _ _ _ (MBX.out x.val (((Only.refl (fun _ => False) w7).drew.trans x.grew).toBelow (fun q hq => hq.elim) (Nat.le_refl _)))]; rfl
        clear hbm hsm hrm hlz hlzz
        go_wp2_with fail
        refine OrdR.wp_region_ord (R := Only (fun _ => False)) (way15 _) [(0, false), (3, false), (1, true), (2, false), (4, true), (5, false), (6, false), (7, false), (8, false), (10, false), (11, false), (12, false), (13, false), (14, false), (9, true), (15, false), (16, false), (17, false), (18, false), (20, false), (21, false), (22, false), (23, false), (19, true), (24, false), (25, false)] (by kernel_rfl) rfl (by kernel_rfl) (by kernel_rfl) (fun _ _ _ d _ h => by cases d <;> exact h) ?_
        refine OrdR.ord_still rfl rfl (by kernel_rfl) (fun K hK => ?_)
        go_big_quiet_op
        refine hK _ ?_; clear hK K
        refine OrdR.ord_still rfl rfl (by kernel_rfl) (fun K hK => ?_)
        go_big_quiet_op
        refine hK _ ?_; clear hK K
        refine OrdR.ord_loud rfl (by kernel_rfl) (fun K hK => ?_)
        go_big_op
        refine BYZ.out.mono ?_
        rintro e wb ⟨vb, rfl, ho, hb⟩
        refine hK _ _ (Only.later15 hb) ?_
        obtain ⟨ab, nb, rfl, _⟩ := ho.tor.lit
        have HYB := Lib.hid ((Below.refl w7.heap.size w7).drew.trans hb)
        have hstb := fun x : OrdR.GW (Only (fun _ => False)) wb => (((ho.off (Q := fun _ => False) HLZ.out fun _ _ h => h).only x.grew fun j h => h).1).str
        rw [← HZZ.out] at hstb ⊢
        have RBY := Lib.hid (ref_Bytes15 _ _ _ _ _ _ wb (HMZ.out.later HYB.out))
        clear ho hb BYZ
        clear hK K
        refine OrdR.ord_still rfl rfl (by kernel_rfl) (fun K hK => ?_)
        go_big_quiet_op
        refine hK _ ?_; clear hK K
        refine OrdR.ord_loud rfl (by kernel_rfl) (fun K hK => ?_)
        go_big_op
        refine RBY.out.mono ?_
        rintro e wc ⟨vc, rfl, ho, hb⟩
        refine hK _ _ (Only.later15 hb) ?_
        obtain ⟨ac9, nc, rfl, _⟩ := ho.tor.lit
        have HYC := Lib.hid (HYB.out.trans (hb.mono HYB.out.size))
        have hstc := fun x : OrdR.GW (Only (fun _ => False)) wc => (((ho.off (Q := fun _ => False) HLZ.out fun _ _ h => h).only x.grew fun j h => h).1).str
        rw [← HZZ.out] at hstc ⊢
        have HDC := Lib.hid (HDZ.out.later HYC.out)
        have SAZ := Lib.hid (disk_Safe _ _ _ _ _ _ _ HDC.out)
        have CSZ := Lib.hid (disk_Crashes _ _ _ _ _ _ _ HDC.out)
        have M0c := fun x : OrdR.GW (Only (fun _ => False)) wc => show x.val.cell? ⟨gm, 0, none⟩ = some (.slice sa sz.length sc) from by rw [cell_of_row _ _ _ _ _ _ (MBX.out x.val (HYC.out.trans (x.grew.toBelow (fun q hq => hq.elim) HYC.out.size)))]; rfl
        have M2c := fun x : OrdR.GW (Only (fun _ => False)) wc => show x.val.cell? ⟨gm, 2, none⟩ = some (.int .i64 (cz : Nat)) from by rw [cell_of_row _ _ _ _ _ _ (MBX.out x.val (HYC.out.trans (x.grew.toBelow (fun q hq => hq.elim) HYC.out.size)))]; rfl
        have HMC := Lib.hid (HMZ.out.later HYC.out)
        have HBC := Lib.hid (HBZ.out.trans (HYC.out.mono HBZ.out.size))
        clear ho hb RBY HYB HYC HDZ HMZ HBZ M0 M2 MBX
        clear hK K
        refine OrdR.ord_still rfl rfl (by kernel_rfl) (fun K hK => ?_)
        go_big_quiet_op
        refine hK _ ?_; clear hK K
        refine OrdR.ord_still rfl rfl (by kernel_rfl) (fun K hK => ?_)
        go_big_quiet_op
        refine hK _ ?_; clear hK K
        refine OrdR.ord_still rfl rfl (by kernel_rfl) (fun K hK => ?_)
        go_big_quiet_op
        refine hK _ ?_; clear hK K
        refine OrdR.ord_still rfl rfl (by kernel_rfl) (fun K hK => ?_)
        go_big_quiet_op
        refine hK _ ?_; clear hK K
        refine OrdR.ord_still rfl rfl (by kernel_rfl) (fun K hK => ?_)
        go_big_quiet_op
        refine hK _ ?_; clear hK K
        refine OrdR.ord_still rfl rfl (by kernel_rfl) (fun K hK => ?_)
        go_big_quiet_op
        refine hK _ ?_; clear hK K
        refine OrdR.ord_still rfl rfl (by kernel_rfl) (fun K hK => ?_)
        go_big_quiet_op
        refine hK _ ?_; clear hK K
        refine OrdR.ord_still rfl rfl (by kernel_rfl) (fun K hK => ?_)
        go_big_quiet_op
        refine hK _ ?_; clear hK K
        refine OrdR.ord_still rfl rfl (by kernel_rfl) (fun K hK => ?_)
        go_big_quiet_op
        refine hK _ ?_; clear hK K
        refine OrdR.ord_loud rfl (by kernel_rfl) (fun K hK => ?_)
        go_big_op
        refine SAZ.out.mono ?_
        rintro e wz ⟨rfl, hz⟩
        rw [hz]
        clear hz wz
        refine hK _ _ (Only.refl _ _) ?_
        clear SAZ
        clear hK K
        refine OrdR.ord_still rfl rfl (by kernel_rfl) (fun K hK => ?_)
        go_big_quiet_op
        refine hK _ ?_; clear hK K
        refine OrdR.ord_still rfl rfl (by kernel_rfl) (fun K hK => ?_)
        go_big_quiet_op
        refine hK _ ?_; clear hK K
        refine OrdR.ord_still rfl rfl (by kernel_rfl) (fun K hK => ?_)
        go_big_quiet_op
        refine hK _ ?_; clear hK K
        refine OrdR.ord_still rfl rfl (by kernel_rfl) (fun K hK => ?_)
        go_big_quiet_op
        refine hK _ ?_; clear hK K
        refine OrdR.ord_still rfl rfl (by kernel_rfl) (fun K hK => ?_)
        go_big_quiet_op
        refine hK _ ?_; clear hK K
        refine OrdR.ord_still rfl rfl (by kernel_rfl) (fun K hK => ?_)
        go_big_quiet_op
        refine hK _ ?_; clear hK K
        refine OrdR.ord_still rfl rfl (by kernel_rfl) (fun K hK => ?_)
        go_big_quiet_op
        refine hK _ ?_; clear hK K
        refine OrdR.ord_still rfl rfl (by kernel_rfl) (fun K hK => ?_)
        go_big_quiet_op
        refine hK _ ?_; clear hK K
        refine OrdR.ord_loud rfl (by kernel_rfl) (fun K hK => ?_)
        go_big_op
        refine CSZ.out.mono ?_
        rintro e wz ⟨rfl, hz⟩
        rw [hz]
        clear hz wz
        refine hK _ _ (Only.refl _ _) ?_
        clear CSZ
        clear hK K
        refine OrdR.ord_still rfl rfl (by kernel_rfl) (fun K hK => ?_)
        go_big_quiet_op
        refine hK _ ?_; clear hK K
        refine OrdR.ord_still rfl rfl (by kernel_rfl) (fun K hK => ?_)
        go_big_quiet_op
        refine hK _ ?_; clear hK K
        refine OrdR.ord_nil ?_
        go_wp2
        go_roundw
        case rel => exact ⟨k + 1, v6, sz, rz, cz, by omega, by go_num, HDC, HMC, HPZ, HBC⟩
        case measure => simp [intOf]; omega
      · have q0 : (t0 == 0) = false := by simpa using h0
        have q1 : (t0 == 1) = false := by simpa using h1
        have q2 : (t0 == 2) = false := by simpa using h2
        have HPZ := Lib.hid (show (s ++ r).length ≤ 1000 + datas (ts.take (k + 1)) ∧ c ≤ k + 1 from by
          have h1 := HP.out
          rw [HS.out.1]
          omega)
        have HDZ := HD5
        have HMZ := HM5
        have HBZ := HB5
        clear h0 h1 h2 HD5 HM5 HB5 HP
        obtain ⟨msv, mrv, hbm, hsm, hrm⟩ := HMZ.out.box
        obtain ⟨sa, sc, rfl, _⟩ := hsm.1.shape
        have hml := hsm.1.len
        have MBX := Lib.hid (fun wz (hz : Below w5.heap.size w5 wz) => (hz.block gm HMZ.out.lt).trans hbm)
        have BYZ := Lib.hid (disk_Bytes _ _ _ _ _ _ _ (HDZ.out.later (Below.refl w5.heap.size w5).drew))
        have hlz : (s ++ r).length ≤ 140737488351232 := by have := HDZ.out.small; omega
        have HLZ := Lib.hid hlz
        obtain ⟨lz, hlzz⟩ : ∃ lz, lz = s ++ r := ⟨_, rfl⟩
        have HZZ := Lib.hid hlzz
        have M0 := fun x : OrdR.GW (Only (fun _ => False)) w5.drew => show x.val.cell? ⟨gm, 0, none⟩ = some (.slice sa s.length sc) from by rw [cell_of_row _ _ _ _ _ _ (MBX.out x.val (((Only.refl (fun _ => False) w5).drew.trans x.grew).toBelow (fun q hq => hq.elim) (Nat.le_refl _)))]; rfl
        have M2 := fun x : OrdR.GW (Only (fun _ => False)) w5.drew => show x.val.cell? ⟨gm, 2, none⟩ = some (.int .i64 (c : Nat)) from by rw [cell_of_row _ _ _ _ _ _ (MBX.out x.val (((Only.refl (fun _ => False) w5).drew.trans x.grew).toBelow (fun q hq => hq.elim) (Nat.le_refl _)))]; rfl
        clear hbm hsm hrm hlz hlzz
        go_wp2_with fail
        rw [← HEB.out.1]
        refine OrdR.wp_region_ord (R := Only (fun _ => False)) (way15 _) [(0, false), (3, false), (1, true), (2, false), (4, true), (5, false), (6, false), (7, false), (8, false), (10, false), (11, false), (12, false), (13, false), (14, false), (9, true), (15, false), (16, false), (17, false), (18, false), (20, false), (21, false), (22, false), (23, false), (19, true), (24, false), (25, false)] (by kernel_rfl) rfl (by kernel_rfl) (by kernel_rfl) (fun _ _ _ d _ h => by cases d <;> exact h) ?_
        refine OrdR.ord_still rfl rfl (by kernel_rfl) (fun K hK => ?_)
        go_big_quiet_op
        refine hK _ ?_; clear hK K
        refine OrdR.ord_still rfl rfl (by kernel_rfl) (fun K hK => ?_)
        go_big_quiet_op
        refine hK _ ?_; clear hK K
        refine OrdR.ord_loud rfl (by kernel_rfl) (fun K hK => ?_)
        go_big_op
        refine BYZ.out.mono ?_
        rintro e wb ⟨vb, rfl, ho, hb⟩
        refine hK _ _ (Only.later15 hb) ?_
        obtain ⟨ab, nb, rfl, _⟩ := ho.tor.lit
        have HYB := Lib.hid ((Below.refl w5.heap.size w5).drew.trans hb)
        have hstb := fun x : OrdR.GW (Only (fun _ => False)) wb => (((ho.off (Q := fun _ => False) HLZ.out fun _ _ h => h).only x.grew fun j h => h).1).str
        rw [← HZZ.out] at hstb ⊢
        have RBY := Lib.hid (ref_Bytes15 _ _ _ _ _ _ wb (HMZ.out.later HYB.out))
        clear ho hb BYZ
        clear hK K
        refine OrdR.ord_still rfl rfl (by kernel_rfl) (fun K hK => ?_)
        go_big_quiet_op
        refine hK _ ?_; clear hK K
        refine OrdR.ord_loud rfl (by kernel_rfl) (fun K hK => ?_)
        go_big_op
        refine RBY.out.mono ?_
        rintro e wc ⟨vc, rfl, ho, hb⟩
        refine hK _ _ (Only.later15 hb) ?_
        obtain ⟨ac9, nc, rfl, _⟩ := ho.tor.lit
        have HYC := Lib.hid (HYB.out.trans (hb.mono HYB.out.size))
        have hstc := fun x : OrdR.GW (Only (fun _ => False)) wc => (((ho.off (Q := fun _ => False) HLZ.out fun _ _ h => h).only x.grew fun j h => h).1).str
        rw [← HZZ.out] at hstc ⊢
        have HDC := Lib.hid (HDZ.out.later HYC.out)
        have SAZ := Lib.hid (disk_Safe _ _ _ _ _ _ _ HDC.out)
        have CSZ := Lib.hid (disk_Crashes _ _ _ _ _ _ _ HDC.out)
        have M0c := fun x : OrdR.GW (Only (fun _ => False)) wc => show x.val.cell? ⟨gm, 0, none⟩ = some (.slice sa s.length sc) from by rw [cell_of_row _ _ _ _ _ _ (MBX.out x.val (HYC.out.trans (x.grew.toBelow (fun q hq => hq.elim) HYC.out.size)))]; rfl
        have M2c := fun x : OrdR.GW (Only (fun _ => False)) wc => show x.val.cell? ⟨gm, 2, none⟩ = some (.int .i64 (c : Nat)) from by rw [cell_of_row _ _ _ _ _ _ (MBX.out x.val (HYC.out.trans (x.grew.toBelow (fun q hq => hq.elim) HYC.out.size)))]; rfl
        have HMC := Lib.hid (HMZ.out.later HYC.out)
        have HBC := Lib.hid (HBZ.out.trans (HYC.out.mono HBZ.out.size))
        clear ho hb RBY HYB HYC HDZ HMZ HBZ M0 M2 MBX
        clear hK K
        refine OrdR.ord_still rfl rfl (by kernel_rfl) (fun K hK => ?_)
        go_big_quiet_op
        refine hK _ ?_; clear hK K
        refine OrdR.ord_still rfl rfl (by kernel_rfl) (fun K hK => ?_)
        go_big_quiet_op
        refine hK _ ?_; clear hK K
        refine OrdR.ord_still rfl rfl (by kernel_rfl) (fun K hK => ?_)
        go_big_quiet_op
        refine hK _ ?_; clear hK K
        refine OrdR.ord_still rfl rfl (by kernel_rfl) (fun K hK => ?_)
        go_big_quiet_op
        refine hK _ ?_; clear hK K
        refine OrdR.ord_still rfl rfl (by kernel_rfl) (fun K hK => ?_)
        go_big_quiet_op
        refine hK _ ?_; clear hK K
        refine OrdR.ord_still rfl rfl (by kernel_rfl) (fun K hK => ?_)
        go_big_quiet_op
        refine hK _ ?_; clear hK K
        refine OrdR.ord_still rfl rfl (by kernel_rfl) (fun K hK => ?_)
        go_big_quiet_op
        refine hK _ ?_; clear hK K
        refine OrdR.ord_still rfl rfl (by kernel_rfl) (fun K hK => ?_)
        go_big_quiet_op
        refine hK _ ?_; clear hK K
        refine OrdR.ord_still rfl rfl (by kernel_rfl) (fun K hK => ?_)
        go_big_quiet_op
        refine hK _ ?_; clear hK K
        refine OrdR.ord_loud rfl (by kernel_rfl) (fun K hK => ?_)
        go_big_op
        refine SAZ.out.mono ?_
        rintro e wz ⟨rfl, hz⟩
        rw [hz]
        clear hz wz
        refine hK _ _ (Only.refl _ _) ?_
        clear SAZ
        clear hK K
        refine OrdR.ord_still rfl rfl (by kernel_rfl) (fun K hK => ?_)
        go_big_quiet_op
        refine hK _ ?_; clear hK K
        refine OrdR.ord_still rfl rfl (by kernel_rfl) (fun K hK => ?_)
        go_big_quiet_op
        refine hK _ ?_; clear hK K
        refine OrdR.ord_still rfl rfl (by kernel_rfl) (fun K hK => ?_)
        go_big_quiet_op
        refine hK _ ?_; clear hK K
        refine OrdR.ord_still rfl rfl (by kernel_rfl) (fun K hK => ?_)
        go_big_quiet_op
        refine hK _ ?_; clear hK K
        refine OrdR.ord_still rfl rfl (by kernel_rfl) (fun K hK => ?_)
        go_big_quiet_op
        refine hK _ ?_; clear hK K
        refine OrdR.ord_still rfl rfl (by kernel_rfl) (fun K hK => ?_)
        go_big_quiet_op
        refine hK _ ?_; clear hK K
        refine OrdR.ord_still rfl rfl (by kernel_rfl) (fun K hK => ?_)
        go_big_quiet_op
        refine hK _ ?_; clear hK K
        refine OrdR.ord_still rfl rfl (by kernel_rfl) (fun K hK => ?_)
        go_big_quiet_op
        refine hK _ ?_; clear hK K
        refine OrdR.ord_loud rfl (by kernel_rfl) (fun K hK => ?_)
        go_big_op
        refine CSZ.out.mono ?_
        rintro e wz ⟨rfl, hz⟩
        rw [hz]
        clear hz wz
        refine hK _ _ (Only.refl _ _) ?_
        clear CSZ
        clear hK K
        refine OrdR.ord_still rfl rfl (by kernel_rfl) (fun K hK => ?_)
        go_big_quiet_op
        refine hK _ ?_; clear hK K
        refine OrdR.ord_still rfl rfl (by kernel_rfl) (fun K hK => ?_)
        go_big_quiet_op
        refine hK _ ?_; clear hK K
        refine OrdR.ord_nil ?_
        go_wp2
        go_roundw
        case rel => exact ⟨k + 1, vd, s, r, c, by omega, by go_num, HDC, HMC, HPZ, HBC⟩
        case measure => simp [intOf]; omega
    · obtain rfl : k = n := by omega
      go_wp2
      go_ret
      exact ⟨rfl, HBW.out⟩

end Go.Proofs.Ytegaamebcoockaa
