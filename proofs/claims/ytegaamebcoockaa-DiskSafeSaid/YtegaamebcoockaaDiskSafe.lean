/-
  DiskSafe: what is safe stays, whatever comes; behind a crash there aren't more bytes than ahead of it, and all are safe. For every input.
-/
import Derived.Test.YtegaamebcoockaaDskAlive
import Derived.Test.YtegaamebcoockaaDskRef
set_option linter.unusedVariables false
set_option linter.unusedSimpArgs false
set_option maxRecDepth 1000000
namespace Go.Proofs.Ytegaamebcoockaa
open Go.RowKit

theorem cr_ok {l j : List UInt8} {s : Nat} {k : Int} (hs : s ≤ l.length) (h : crE (l.length - s) k j.length = 0) : crS l s k j = (crL l s k j).length ∧ (crL l s k j).length ≤ l.length ∧ s ≤ (crL l s k j).length ∧ l.take s = (crL l s k j).take s := by
  have h0 : 0 ≤ k ∧ s + k.toNat + j.length ≤ l.length := by
    unfold crE at h
    split at h
    · cases h
    · split at h
      · cases h
      · omega
  unfold crS crL
  rw [if_pos h, if_pos h]
  have e : (l.take (s + k.toNat) ++ j).length = s + k.toNat + j.length := by rw [List.length_append, List.length_take]; omega
  refine ⟨e.symm, by rw [e]; omega, by rw [e]; omega, ?_⟩
  rw [List.take_append_of_le_length (by rw [List.length_take]; omega), List.take_take, Nat.min_eq_left (by omega)]
theorem cr_no {l j : List UInt8} {s c : Nat} {k : Int} (h : crE (l.length - s) k j.length ≠ 0) : crS l s k j = s ∧ crL l s k j = l ∧ crC l s k j c = c := by
  unfold crS crL crC
  rw [if_neg h, if_neg h, if_neg h]
  exact ⟨rfl, rfl, rfl⟩
theorem cut_str15 (l m : List UInt8) (h : l.take m.length = m) : (⟨l.toArray⟩ : ByteArray).extract 0 m.length = ⟨m.toArray⟩ := by
  apply ByteArray.ext
  simp
  exact h

set_option maxHeartbeats 16000000 in
theorem diskSafe_walk (va : Value) (ts : List ActD) (w : World) (ha : RdD w va ts) :
    Calls Try.prog 5 #[va] w fun e w' => e = .returned (.bool true) ∧ Below w.heap.size w w' := by
  obtain ⟨aa, ac, rfl⟩ := ha.lit
  have hal := ha.len
  have hasm := ha.small
  have HR := Lib.hid (fun wz (hz : Below w.heap.size w wz) => ha.later hz)
  obtain ⟨n, hn⟩ : ∃ n, n = ts.length := ⟨_, rfl⟩
  rw [← hn] at hal hasm HR ⊢
  have HN := Lib.hid hn
  have NW := Lib.hid (disk_New _ [] w (Rd.nil w) (by decide))
  clear ha hn
  go_enter Try.func5, Try.ntmps5
  go_wp2_with fail
  refine NW.out.mono ?_
  rintro e w1 ⟨g, v, rfl, hd, hb⟩
  have HB1 := Lib.hid hb
  have HD1 := Lib.hid hd
  clear hd hb NW
  go_wp2_with fail
  refine (law15_alive w1).mono ?_
  rintro e w2 ⟨rfl, hb⟩
  have HB2 := Lib.hid (HB1.out.trans (hb.mono HB1.out.size))
  have HD2 := Lib.hid (HD1.out.later hb)
  clear hb HB1 HD1
  go_wp2_with fail
  refine (law15_great _ ts w2 (HR.out w2 HB2.out)).mono ?_
  rintro e w3 ⟨hb, rfl⟩
  have HB3 := Lib.hid (HB2.out.trans (hb.mono HB2.out.size))
  have HD3 := Lib.hid (HD2.out.later hb)
  clear hb HB2 HD2
  by_cases hbig : 200 < ts.length ∨ 5000 < datas ts
  · rw [decide_eq_true hbig]
    go_wp2_with fail
    refine (law15_alive w3).mono ?_
    rintro e w4 ⟨rfl, hb⟩
    have HB4 := Lib.hid (HB3.out.trans (hb.mono HB3.out.size))
    clear hb
    go_wp2
    go_ret
    exact ⟨rfl, HB4.out⟩
  rw [decide_eq_false hbig]
  have HL := Lib.hid (show n ≤ 200 ∧ datas ts ≤ 5000 from by have := HN.out; omega)
  clear hbig
  go_wp2
  go_loopw [4, 23] (fun y i wr => ∃ (k : Nat) (vd : Value) (dl : List UInt8) (s c : Nat) (sl : List UInt8), k ≤ n ∧ i = .int .i64 k ∧ y = .string ⟨sl.toArray⟩ ∧ Hid (Dsk wr w.heap.size g vd dl s c) ∧ Hid (dl.take sl.length = sl ∧ sl.length ≤ s ∧ dl.length ≤ datas (ts.take k) ∧ c ≤ k) ∧ Hid (Below w.heap.size w wr)) (fun _ i _ => n - (intOf i).toNat)
  case atStart => exact ⟨0, v, [], 0, 0, [], by omega, rfl, rfl, HD3, Lib.hid (by simp), HB3⟩
  case round =>
    clear HD3 HB3
    obtain ⟨k, vd, dl, s, c, sl, hk, rfl, rfl, HD, HP, HBW⟩ := hrel
    by_cases hlt : k < n
    · have hkt : k < ts.length := by rw [← HN.out]; exact hlt
      obtain ⟨b, o, hidx, e0, e1, e2, _⟩ := (HR.out _ HBW.out).get hkt
      obtain ⟨hrd, hb0, hb1⟩ := (HR.out w (Below.refl _ _)).each _ (List.getElem_mem hkt)
      have hst := datas_take hkt
      have hdo := datas_one hkt
      obtain ⟨t, ht⟩ : ∃ t, t = ts[k] := ⟨_, rfl⟩
      rw [← ht] at e0 e1 e2 hrd hst hb0 hb1 hdo
      obtain ⟨tv, t0, t1, tl⟩ := t
      dsimp only at e0 e1 e2 hrd hst hb0 hb1 hdo
      obtain ⟨ta, tc, rfl, _⟩ := hrd.shape
      have HT := Lib.hid hrd
      have HS := Lib.hid (And.intro hst hdo)
      have HK1 := Lib.hid hb1
      obtain ⟨m, hm⟩ : ∃ m, m = tl.length := ⟨_, rfl⟩
      rw [← hm] at e2 HT
      have HM := Lib.hid hm
      have hn4 := (Below.refl wr.heap.size wr).alloc (Nat.le_refl _) (.cells #[.int .i64 t0, .int .i64 t1, .slice ta m tc] 32)
      have HX4 := Lib.hid (heap_alloc_new wr (.cells #[.int .i64 t0, .int .i64 t1, .slice ta m tc] 32))
      have HB4 := Lib.hid (HBW.out.trans (hn4.mono HBW.out.size))
      have HD4 := Lib.hid (HD.out.later hn4)
      have HQ4 := Lib.hid (show ∀ q, DskQ g vd q → ¬ q = wr.heap.size from fun q hq e => by have := (HD.out.q hq).2; omega)
      have BY := Lib.hid (disk_Bytes _ _ _ _ _ _ _ HD4.out)
      obtain ⟨eb, heb⟩ : ∃ eb, eb = wr.heap.size := ⟨_, rfl⟩
      rw [← heb] at HX4 HQ4
      have HEB := Lib.hid heb
      clear hkt hrd hst hdo ht hb0 hb1 hm hn4 HD HBW heb
      go_wp2_with fail
      refine BY.out.mono ?_
      rintro e w5 ⟨v5, rfl, ho, hb⟩
      obtain ⟨a5, n5, rfl, _⟩ := ho.tor.lit
      have hlt4 := (Array.getElem?_eq_some_iff.1 HX4.out).1
      have hx5 := (hb.block eb hlt4).trans HX4.out
      have HX5 := Lib.hid hx5
      have x0 : w5.cell? ⟨eb, 0, none⟩ = some (.int .i64 t0) := by rw [cell_of_row _ _ _ _ _ _ hx5]; rfl
      have x1 : w5.cell? ⟨eb, 1, none⟩ = some (.int .i64 t1) := by rw [cell_of_row _ _ _ _ _ _ hx5]; rfl
      have x2 : w5.cell? ⟨eb, 2, none⟩ = some (.slice ta m tc) := by rw [cell_of_row _ _ _ _ _ _ hx5]; rfl
      have HB5 := Lib.hid (HB4.out.trans (hb.mono HB4.out.size))
      have HD5 := Lib.hid (HD4.out.later hb)
      have HO5 := Lib.hid ho
      have HG5 := Lib.hid (show ∀ j, wr.heap.size ≤ j → ¬ DskQ g vd j ∨ True from fun _ _ => .inr trivial)
      have HV5 := Lib.hid (show ∀ q, DskQ g vd q → q < (wr.alloc (.cells #[.int .i64 t0, .int .i64 t1, .slice ta m tc] 32)).heap.size from fun q hq => (HD4.out.q hq).2)
      clear ho hb BY HB4 HD4 hlt4 hx5 HX4 e0 e1 e2 hidx HG5
      rw [← HEB.out]
      have hdl := HD5.out.rd.len
      have hdsm := HD5.out.small
      by_cases h0 : t0 = 0
      · subst h0
        have AP := Lib.hid (disk_Append w.heap.size g vd dl s c _ tl w5 HD5.out (by have := HT.out.later HB5.out (Nat.le_refl _); exact this) (by have := HP.out.2.2.1; have := HS.out; have := HL.out; omega))
        go_wp2_with fail
        refine AP.out.mono ?_
        rintro e w6 ⟨rfl, v6, hd, hO, _⟩
        have HB6 := Lib.hid (HB5.out.trans (HD5.out.below hO))
        have HDZ := Lib.hid hd
        have HPZ := Lib.hid (show (dl ++ tl).take sl.length = sl ∧ sl.length ≤ s ∧ (dl ++ tl).length ≤ datas (ts.take (k + 1)) ∧ c ≤ k + 1 from by
          obtain ⟨p1, p2, p3, p4⟩ := HP.out
          have p5 := HD5.out.safe
          refine ⟨by rw [List.take_append_of_le_length (by omega)]; exact p1, p2, ?_, by omega⟩
          rw [List.length_append, HS.out.1]; omega)
        obtain ⟨dz, hdz⟩ : ∃ dz, dz = dl ++ tl := ⟨_, rfl⟩
        rw [← hdz] at HDZ HPZ
        clear hd hO AP HB5 HD5 HP HO5 x0 x1 x2 HX5 hdz hdl hdsm
        have BYZ := Lib.hid (disk_Bytes _ _ _ _ _ _ _ HDZ.out)
        have hdz8 := HDZ.out.small
        go_wp2_with fail
        refine BYZ.out.mono ?_
        rintro e wb ⟨vb, rfl, ho, hb⟩
        obtain ⟨ab, nb, rfl, _⟩ := ho.tor.lit
        have hstb := (ho.rd (by omega)).str
        have HBZ := Lib.hid (HB6.out.trans (hb.mono HB6.out.size))
        have HDB := Lib.hid (HDZ.out.later hb)
        have SAZ := Lib.hid (disk_Safe _ _ _ _ _ _ _ HDB.out)
        have hex := cut_str15 dz sl HPZ.out.1
        have hp1 : (sl.length : Int) ≤ ((s : Nat) : Int) := by have := HPZ.out.2.1; omega
        have hp2 : ((s : Nat) : Int) ≤ (dz.length : Int) := by have := HDZ.out.safe; omega
        have hp3 : (sl.length : Int) ≤ (dz.length : Int) := by omega
        clear ho hb BYZ HDZ HB6
        go_wp2_with fail
        refine SAZ.out.mono ?_
        rintro e wz ⟨rfl, hz⟩
        rw [hz]
        clear hz wz
        go_wp2_with fail
        refine SAZ.out.mono ?_
        rintro e wz ⟨rfl, hz⟩
        rw [hz]
        clear hz wz SAZ
        go_wp2
        go_roundw
        case rel => exact ⟨k + 1, v6, dz, s, c, sl, by omega, by go_num, rfl, HDB, HPZ, HBZ⟩
        case measure => simp [intOf]; omega
      by_cases h1 : t0 = 1
      · subst h1
        have SY := Lib.hid (disk_Sync w.heap.size g vd dl s c w5 HD5.out)
        go_wp2_with fail
        refine SY.out.mono ?_
        rintro e w6 ⟨rfl, v6, hd, hO, _⟩
        have HB6a := Lib.hid (HB5.out.trans (HD5.out.below hO))
        have HD6 := Lib.hid hd
        have BY := Lib.hid (disk_Bytes _ _ _ _ _ _ _ hd)
        have HPZ := Lib.hid (show dl.take dl.length = dl ∧ dl.length ≤ dl.length ∧ dl.length ≤ datas (ts.take (k + 1)) ∧ c ≤ k + 1 from by
          obtain ⟨p1, p2, p3, p4⟩ := HP.out
          refine ⟨List.take_length, Nat.le_refl _, by rw [HS.out.1]; omega, by omega⟩)
        clear hd hO SY HB5 HD5 HP HO5 x0 x1 x2 HX5 hdl
        go_wp2_with fail
        refine BY.out.mono ?_
        rintro e w7 ⟨v7, rfl, ho, hb⟩
        obtain ⟨a7, n7, rfl, _⟩ := ho.tor.lit
        have hst7 := (ho.rd (by omega)).str
        have HB6 := Lib.hid (HB6a.out.trans (hb.mono HB6a.out.size))
        have HDZ := Lib.hid (HD6.out.later hb)
        clear ho hb BY HB6a HD6 hdsm
        have BYZ := Lib.hid (disk_Bytes _ _ _ _ _ _ _ HDZ.out)
        have hdz8 := HDZ.out.small
        go_wp2_with fail
        refine BYZ.out.mono ?_
        rintro e wb ⟨vb, rfl, ho, hb⟩
        obtain ⟨ab, nb, rfl, _⟩ := ho.tor.lit
        have hstb := (ho.rd (by omega)).str
        have HBZ := Lib.hid (HB6.out.trans (hb.mono HB6.out.size))
        have HDB := Lib.hid (HDZ.out.later hb)
        have SAZ := Lib.hid (disk_Safe _ _ _ _ _ _ _ HDB.out)
        have hex := cut_str15 dl dl HPZ.out.1
        have hp1 : (dl.length : Int) ≤ ((dl.length : Nat) : Int) := by have := HPZ.out.2.1; omega
        have hp2 : ((dl.length : Nat) : Int) ≤ (dl.length : Int) := by have := HDZ.out.safe; omega
        have hp3 : (dl.length : Int) ≤ (dl.length : Int) := by omega
        clear ho hb BYZ HDZ HB6
        go_wp2_with fail
        refine SAZ.out.mono ?_
        rintro e wz ⟨rfl, hz⟩
        rw [hz]
        clear hz wz
        go_wp2_with fail
        refine SAZ.out.mono ?_
        rintro e wz ⟨rfl, hz⟩
        rw [hz]
        clear hz wz SAZ
        go_wp2
        go_roundw
        case rel => exact ⟨k + 1, v6, dl, dl.length, c, dl, by omega, by go_num, rfl, HDB, HPZ, HBZ⟩
        case measure => simp [intOf]; omega
      · have q0 : (t0 == 0) = false := by simpa using h0
        have q1 : (t0 == 1) = false := by simpa using h1
        have hoff := ((HT.out.off (Q := DskQ g vd) fun j hj hq => by have := (HD5.out.q hq).1; omega).later HB5.out)
        have CR := Lib.hid (disk_Crash w.heap.size g vd dl s c t1 _ tl w5 HD5.out hoff HK1.out (by have := HP.out.2.2.2; have := HL.out; omega))
        have HSF := Lib.hid HD5.out.safe
        clear hoff h0 h1
        by_cases hE : crE (dl.length - s) t1 tl.length = 0
        · have hok := cr_ok HSF.out hE
          have hcc : crC dl s t1 tl c = c + 1 := by unfold crC; rw [if_pos hE]
          rw [hcc, hE] at CR
          obtain ⟨dz, hdz⟩ : ∃ dz, dz = crL dl s t1 tl := ⟨_, rfl⟩
          rw [← hdz] at CR hok
          rw [hok.1] at CR
          have HOK := Lib.hid hok.2
          clear hok hcc hE hdz
          go_wp2_with fail
          refine CR.out.mono ?_
          rintro e w6 ⟨rfl, v6, hd, hO, _⟩
          have HB6a := Lib.hid (HB5.out.trans (HD5.out.below hO))
          have HD6 := Lib.hid hd
          have BY := Lib.hid (disk_Bytes _ _ _ _ _ _ _ hd)
          have hdz2 := hd.small
          have HPZ := Lib.hid (show dz.take dz.length = dz ∧ dz.length ≤ dz.length ∧ dz.length ≤ datas (ts.take (k + 1)) ∧ c + 1 ≤ k + 1 from by
            obtain ⟨p1, p2, p3, p4⟩ := HP.out
            have := HOK.out.1
            refine ⟨List.take_length, Nat.le_refl _, by rw [HS.out.1]; omega, by omega⟩)
          have hle : (dz.length : Int) ≤ (dl.length : Int) := by have := HOK.out.1; omega
          have hl5 := (HO5.out.rd (by omega)).len
          clear hd hO CR HB5 HD5 HP x0 x1 x2 HX5 hdl HSF
          go_wp2_with fail
          refine BY.out.mono ?_
          rintro e w7 ⟨v7, rfl, ho, hb⟩
          obtain ⟨a7, n7, rfl, _⟩ := ho.tor.lit
          have hl7 := (ho.rd (by omega)).len
          have HB7 := Lib.hid (HB6a.out.trans (hb.mono HB6a.out.size))
          have HD7 := Lib.hid (HD6.out.later hb)
          have SA := Lib.hid (disk_Safe _ _ _ _ _ _ _ HD7.out)
          have BY := Lib.hid (disk_Bytes _ _ _ _ _ _ _ HD7.out)
          clear ho hb HB6a HD6
          go_wp2_with fail
          refine SA.out.mono ?_
          rintro e wz ⟨rfl, hz⟩
          rw [hz]
          clear hz wz SA
          go_wp2_with fail
          refine BY.out.mono ?_
          rintro e w8 ⟨v8, rfl, ho, hb⟩
          obtain ⟨a8, n8, rfl, _⟩ := ho.tor.lit
          have hl8 := (ho.rd (by omega)).len
          have HB8 := Lib.hid (HB7.out.trans (hb.mono HB7.out.size))
          have HD8 := Lib.hid (HD7.out.later hb)
          have BY := Lib.hid (disk_Bytes _ _ _ _ _ _ _ HD8.out)
          clear ho hb HB7 HD7
          go_wp2_with fail
          refine BY.out.mono ?_
          rintro e w9 ⟨v9, rfl, ho, hb⟩
          obtain ⟨a9, n9, rfl, _⟩ := ho.tor.lit
          have hst7 := (ho.rd (by omega)).str
          have HB6 := Lib.hid (HB8.out.trans (hb.mono HB8.out.size))
          have HDZ := Lib.hid (HD8.out.later hb)
          clear ho hb BY HB8 HD8 hl8 hl7 hl5 HO5 hle hdsm hdz2
          have BYZ := Lib.hid (disk_Bytes _ _ _ _ _ _ _ HDZ.out)
          have hdz8 := HDZ.out.small
          go_wp2_with fail
          refine BYZ.out.mono ?_
          rintro e wb ⟨vb, rfl, ho, hb⟩
          obtain ⟨ab, nb, rfl, _⟩ := ho.tor.lit
          have hstb := (ho.rd (by omega)).str
          have HBZ := Lib.hid (HB6.out.trans (hb.mono HB6.out.size))
          have HDB := Lib.hid (HDZ.out.later hb)
          have SAZ := Lib.hid (disk_Safe _ _ _ _ _ _ _ HDB.out)
          have hex := cut_str15 dz dz HPZ.out.1
          have hp1 : (dz.length : Int) ≤ ((dz.length : Nat) : Int) := by have := HPZ.out.2.1; omega
          have hp2 : ((dz.length : Nat) : Int) ≤ (dz.length : Int) := by have := HDZ.out.safe; omega
          have hp3 : (dz.length : Int) ≤ (dz.length : Int) := by omega
          clear ho hb BYZ HDZ HB6
          go_wp2_with fail
          refine SAZ.out.mono ?_
          rintro e wz ⟨rfl, hz⟩
          rw [hz]
          clear hz wz
          go_wp2_with fail
          refine SAZ.out.mono ?_
          rintro e wz ⟨rfl, hz⟩
          rw [hz]
          clear hz wz SAZ
          go_wp2
          go_roundw
          case rel => exact ⟨k + 1, v6, dz, dz.length, (c + 1), dz, by omega, by go_num, rfl, HDB, HPZ, HBZ⟩
          case measure => simp [intOf]; omega
        · have hno := cr_no (c := c) hE
          rw [hno.1, hno.2.1, hno.2.2] at CR
          obtain ⟨E, hEE⟩ : ∃ E, E = crE (dl.length - s) t1 tl.length := ⟨_, rfl⟩
          rw [← hEE] at CR hE
          have q2 : ((E : Int) == 0) = false := by simpa using hE
          clear hno hEE hE
          go_wp2_with fail
          refine CR.out.mono ?_
          rintro e w6 ⟨rfl, v6, hd, hO, _⟩
          have HB6a := Lib.hid (HB5.out.trans (HD5.out.below hO))
          have HD6 := Lib.hid hd
          have BY := Lib.hid (disk_Bytes _ _ _ _ _ _ _ (hd.later (Below.refl _ _).drew))
          have HPZ := Lib.hid (show dl.take sl.length = sl ∧ sl.length ≤ s ∧ dl.length ≤ datas (ts.take (k + 1)) ∧ c ≤ k + 1 from by
            obtain ⟨p1, p2, p3, p4⟩ := HP.out
            exact ⟨p1, p2, by rw [HS.out.1]; omega, by omega⟩)
          have HW6 := Lib.hid (show Own w6 (wr.alloc (.cells #[.int .i64 t0, .int .i64 t1, .slice ta m tc] 32)).heap.size (.slice a5 dl.length n5) dl from by
            refine ⟨HO5.out.1, ?_⟩
            rcases HO5.out.2 with h2 | ⟨g9, cap, cur, e9, hbg, hg, r⟩
            · exact .inl h2
            · exact .inr ⟨g9, cap, cur, e9, hbg, hO.keep hg (fun h => by have := HV5.out g9 h; omega), r⟩)
          have hsw := fun x : OrdR.GW (Only (fun _ => False)) w6.drew => ((((HW6.out.off (Q := fun _ => False) (by omega) fun _ _ h => h).later (Below.refl _ _).drew).only x.grew fun j h => h).1).str
          clear hd hO CR HB5 HD5 HP x0 x1 x2 HX5 hdl HSF HO5
          go_wp2_with fail
          refine OrdR.wp_region_ord (R := Only (fun _ => False)) (way15 _) [(0, false), (3, false), (4, false), (1, true), (2, false), (5, false)] (by kernel_rfl) rfl (by kernel_rfl) (by kernel_rfl) (fun _ _ _ d _ h => by cases d <;> exact h) ?_
          refine OrdR.ord_still rfl rfl (by kernel_rfl) (fun K hK => ?_)
          go_big_quiet_op
          refine hK _ ?_; clear hK K
          refine OrdR.ord_still rfl rfl (by kernel_rfl) (fun K hK => ?_)
          go_big_quiet_op
          refine hK _ ?_; clear hK K
          refine OrdR.ord_still rfl rfl (by kernel_rfl) (fun K hK => ?_)
          go_big_quiet_op
          refine hK _ ?_; clear hK K
          refine OrdR.ord_loud rfl (by kernel_rfl) (fun K hK => ?_)
          go_big_op
          refine BY.out.mono ?_
          rintro e w7 ⟨v7, rfl, ho, hb⟩
          refine hK _ _ (Only.later15 hb) ?_
          obtain ⟨a7, n7, rfl, _⟩ := ho.tor.lit
          have hb6 := (Below.refl w6.heap.size w6).drew.trans hb
          have HB6 := Lib.hid (HB6a.out.trans (hb6.mono HB6a.out.size))
          have hst5 := fun x : OrdR.GW (Only (fun _ => False)) w7 => (((ho.off (Q := fun _ => False) (by omega) fun _ _ h => h).only x.grew fun j h => h).1).str
          have HDZ := Lib.hid (HD6.out.later hb6)
          clear ho hb hb6 BY HB6a HD6 hsw HW6
          clear hK K
          refine OrdR.ord_still rfl rfl (by kernel_rfl) (fun K hK => ?_)
          go_big_quiet_op
          refine hK _ ?_; clear hK K
          refine OrdR.ord_still rfl rfl (by kernel_rfl) (fun K hK => ?_)
          go_big_quiet_op
          refine hK _ ?_; clear hK K
          refine OrdR.ord_nil ?_
          clear hst5
          have BYZ := Lib.hid (disk_Bytes _ _ _ _ _ _ _ HDZ.out)
          have hdz8 := HDZ.out.small
          go_wp2_with fail
          refine BYZ.out.mono ?_
          rintro e wb ⟨vb, rfl, ho, hb⟩
          obtain ⟨ab, nb, rfl, _⟩ := ho.tor.lit
          have hstb := (ho.rd (by omega)).str
          have HBZ := Lib.hid (HB6.out.trans (hb.mono HB6.out.size))
          have HDB := Lib.hid (HDZ.out.later hb)
          have SAZ := Lib.hid (disk_Safe _ _ _ _ _ _ _ HDB.out)
          have hex := cut_str15 dl sl HPZ.out.1
          have hp1 : (sl.length : Int) ≤ ((s : Nat) : Int) := by have := HPZ.out.2.1; omega
          have hp2 : ((s : Nat) : Int) ≤ (dl.length : Int) := by have := HDZ.out.safe; omega
          have hp3 : (sl.length : Int) ≤ (dl.length : Int) := by omega
          clear ho hb BYZ HDZ HB6
          go_wp2_with fail
          refine SAZ.out.mono ?_
          rintro e wz ⟨rfl, hz⟩
          rw [hz]
          clear hz wz
          go_wp2_with fail
          refine SAZ.out.mono ?_
          rintro e wz ⟨rfl, hz⟩
          rw [hz]
          clear hz wz SAZ
          go_wp2
          go_roundw
          case rel => exact ⟨k + 1, v6, dl, s, c, sl, by omega, by go_num, rfl, HDB, HPZ, HBZ⟩
          case measure => simp [intOf]; omega

    · obtain rfl : k = n := by omega
      go_wp2
      go_ret
      exact ⟨rfl, HBW.out⟩

end Go.Proofs.Ytegaamebcoockaa
