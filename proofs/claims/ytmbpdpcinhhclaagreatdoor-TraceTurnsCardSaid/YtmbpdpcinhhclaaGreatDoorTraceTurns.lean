/- -/
import Derived.Test.YtmbpdpcinhhclaaGreatDoorKTurnA
import Derived.Test.YtmbpdpcinhhclaaGreatDoorKTrcS
import Derived.Test.YtmbpdpcinhhclaaGreatDoorKTrcL
import Derived.RegionTactic
import Derived.BigRegion
set_option linter.unusedVariables false
set_option linter.unusedSimpArgs false
set_option maxRecDepth 1000000
namespace Go.Proofs.YtmbpdpcinhhclaaGreatDoor
open Go.RowKit Go.Shelf

theorem Own.set_grown {w : World} {base : Nat} {v : Value} {l : List UInt8} (h : Own w base v l) {i : Nat} (hi : i < l.length) (u : Value) : w.grownBy (w.setCell (adr v i) u) v.ownBlock := by
  obtain ⟨h0, h2⟩ := h
  rcases h2 with ⟨rfl, hn⟩ | ⟨g, cap, cur, rfl, hbg, hg, hn, hm, hs, ht⟩
  · exact absurd hi (by omega)
  · have e : adr (.slice (some ⟨g, 0, none⟩) l.length cap) i = ⟨g, i, none⟩ := by
      simp only [adr, Addr.add]; split <;> simp_all
    rw [e]
    exact grown_setCell (World.grownBy.refl _ _) u

def Qbox (w : World) (g : Nat) (a0 a1 a2 a3 : Int) : Prop := w.heap[g]? = some (.cells #[.int .i64 a0, .int .i64 a1, .int .i64 a2, .int .i64 a3] 59 (0, 0))
theorem Qbox.later {w w' : World} {g : Nat} {a0 a1 a2 a3 : Int} (h : Qbox w g a0 a1 a2 a3) (hb : Below w.heap.size w w') : Qbox w' g a0 a1 a2 a3 := (hb.block g (Array.getElem?_eq_some_iff.1 h).1).trans h
theorem Qbox.cell {w : World} {g : Nat} {a0 a1 a2 a3 : Int} (h : Qbox w g a0 a1 a2 a3) : w.cell? ⟨g, 0, none⟩ = some (.int .i64 a0) ∧ w.cell? ⟨g, 1, none⟩ = some (.int .i64 a1) := by
  constructor <;> (rw [cell_of_row _ _ _ _ _ _ h]; rfl)
theorem Qbox.at {w : World} {g : Nat} {a0 a1 a2 a3 : Int} (h : Qbox w g a0 a1 a2 a3) (k : Nat) (hk : k < 3) : ∃ (x : Int) (o : Nat), (∀ u, (Instr.indexAt 60 (.slice (some ⟨g, 1, none⟩) 3 3) (.int .i64 (k : Int))).run Tryz.prog u = .ok (.pointer (some ⟨g, o, none⟩)) u) ∧ w.cell? ⟨g, o, none⟩ = some (.int .i64 x) := by
  rcases (show k = 0 ∨ k = 1 ∨ k = 2 by omega) with rfl | rfl | rfl
  · exact ⟨a1, 1, fun u => by kernel_rfl, by rw [cell_of_row _ _ _ _ _ _ h]; rfl⟩
  · exact ⟨a2, 2, fun u => by kernel_rfl, by rw [cell_of_row _ _ _ _ _ _ h]; rfl⟩
  · exact ⟨a3, 3, fun u => by kernel_rfl, by rw [cell_of_row _ _ _ _ _ _ h]; rfl⟩

set_option maxHeartbeats 32000000 in
theorem traceTurns_K (v : Value) (cs : List ColB) (es : List EntB) (a0 a1 a2 a3 : Int) (b : Int) (w : World) (hT : RdT13 w v cs es) (hC : CS cs) (hO : ∀ x ∈ es, EnO x)
    (b0 : -9223372036854775808 ≤ a0 ∧ a0 ≤ 9223372036854775807) (b1 : -9223372036854775808 ≤ a1 ∧ a1 ≤ 9223372036854775807) (b2 : -9223372036854775808 ≤ a2 ∧ a2 ≤ 9223372036854775807) (b3 : -9223372036854775808 ≤ a3 ∧ a3 ≤ 9223372036854775807) (hb : 0 ≤ b ∧ b ≤ 4294967295) (K : TrcK w) :
    Calls Tryz.prog 8 #[v, .agg #[.int .i64 a0, .int .i64 a1, .int .i64 a2, .int .i64 a3], .int .u32 b] w fun e w' => e = .returned (.bool true) ∧ Below w.heap.size w w' := by
  obtain ⟨y, rfl⟩ := Int.eq_ofNat_of_zero_le hb.1
  have hy : y < 4294967296 := by omega
  clear hb b0 b1 b2 b3
  obtain ⟨sv, ev, rfl, hR, hZ⟩ := hT
  obtain ⟨ae, ne, ce, rfl⟩ := hZ.lit
  obtain ⟨ac, nc, cc, rfl⟩ := hR.lit12
  have HT := Lib.hid (fun wz (hz : Below w.heap.size w wz) => show RdT13 wz (.agg #[.slice ac nc cc, .slice ae ne ce]) cs es from ⟨_, _, rfl, hR.later hz (Nat.le_refl _), hZ.later hz (Nat.le_refl _)⟩)
  obtain ⟨N1, N2⟩ := new_one12 w (.cells #[.slice ac nc cc, .slice ae ne ce] 25)
  have HX := Lib.hid (show Tbox (w.alloc (.cells #[.slice ac nc cc, .slice ae ne ce] 25)) w.heap.size (.slice ac nc cc) (.slice ae ne ce) from N1)
  obtain ⟨M1, M2⟩ := new_one12 (w.alloc (.cells #[.slice ac nc cc, .slice ae ne ce] 25)) (.cells #[.int .i64 a0, .int .i64 a1, .int .i64 a2, .int .i64 a3] 59)
  have HY := Lib.hid M1
  have HB := Lib.hid (N2.trans (M2.mono N2.size))
  replace HX := Lib.hid (HX.out.later M2)
  have HC := Lib.hid hC
  have HO := Lib.hid hO
  have hs2 : (w.alloc (.cells #[.slice ac nc cc, .slice ae ne ce] 25)).heap.size = w.heap.size + 1 := by simp
  rw [hs2] at HY
  clear hR hZ N1 N2 M1 M2 hC hO hs2
  replace HY := Lib.hid (show Qbox _ (w.heap.size + 1) a0 a1 a2 a3 from HY.out)
  go_enter Tryz.func8, Tryz.ntmps8
  go_wp2_with fail
  obtain ⟨w0, hw0⟩ : ∃ w0, w0 = (w.alloc (.cells #[.slice ac nc cc, .slice ae ne ce] 25)).alloc (.cells #[.int .i64 a0, .int .i64 a1, .int .i64 a2, .int .i64 a3] 59) := ⟨_, rfl⟩
  rw [← hw0] at HX HY HB ⊢
  obtain ⟨g, hg⟩ : ∃ g, g = w.heap.size := ⟨_, rfl⟩
  obtain ⟨g2, hg2⟩ : ∃ g2, g2 = w.heap.size + 1 := ⟨_, rfl⟩
  rw [← hg2] at HY ⊢
  rw [← hg] at HX ⊢
  clear hw0 hg hg2
  obtain ⟨q0, q1⟩ := HY.out.cell
  go_region
  replace HX := Lib.hid (HX.out.later ((Below.refl w0.heap.size w0).drew))
  replace HY := Lib.hid (HY.out.later ((Below.refl w0.heap.size w0).drew))
  replace HB := Lib.hid (HB.out.trans (((Below.refl w0.heap.size w0).drew).mono HB.out.size))
  generalize w0.drew = w9 at *
  clear q0 q1
  go_wp2_with fail
  refine (K.alive w9 HB.out).mono ?_
  rintro e w1 ⟨rfl, hb⟩
  replace HX := Lib.hid (HX.out.later hb)
  replace HY := Lib.hid (HY.out.later hb)
  replace HB := Lib.hid (HB.out.trans (hb.mono HB.out.size))
  clear hb
  obtain ⟨c0, c1⟩ := HX.out.cells
  go_wp2_with fail
  refine (law13_great _ cs es w1 (HT.out w1 HB.out)).mono ?_
  rintro e w2 ⟨x, rfl, hx, hf, hb⟩
  replace HX := Lib.hid (HX.out.later hb)
  replace HY := Lib.hid (HY.out.later hb)
  replace HB := Lib.hid (HB.out.trans (hb.mono HB.out.size))
  clear hb c0 c1
  obtain ⟨c0, c1⟩ := HX.out.cells
  rcases hx with rfl | rfl
  · have hfew := hf rfl
    have EA := Lib.hid (K.encode w2 _ cs es HB.out (HT.out w2 HB.out) HC.out HO.out)
    have KD := Lib.hid (fun wz v b (hz : Below w.heap.size w wz) h => K.decode wz v b hz h)
    have hpt := turn_parts (cs := cs) (es := es) HO.out hfew
    obtain ⟨R, hRR⟩ : ∃ R, R = trE cs es := ⟨_, rfl⟩
    rw [← hRR] at EA hpt
    obtain ⟨s, sq, vw, i, er⟩ := R
    dsimp only at hpt
    have HPT := Lib.hid hpt
    have HF := Lib.hid hfew
    clear hf hfew hRR hpt K
    go_wp2_with fail
    refine EA.out.mono ?_
    rintro e w3 ⟨bv, rfl, ho, hb⟩
    replace HX := Lib.hid (HX.out.later hb)
    replace HY := Lib.hid (HY.out.later hb)
    replace HB := Lib.hid (HB.out.trans (hb.mono HB.out.size))
    clear hb c0 c1 EA
    dsimp only at ho ⊢
    by_cases her : er = 0
    · subst her
      obtain ⟨F, f1, f2, f3, f4, f5⟩ := HPT.out rfl
      have hrd := ho.rd (show s.length ≤ 140737488351232 by omega)
      have HR := Lib.hid hrd
      have hlen := hrd.len
      obtain ⟨n, hn⟩ : ∃ n, n = s.length := ⟨_, rfl⟩
      rw [← hn] at f3 f4 hlen f1
      have d1 : decide ((n : Int) < 4) = false := decide_eq_false (by omega)
      obtain ⟨mv, hsl, hmv⟩ := hrd.from 4 (by omega)
      have HP := Lib.hid f5
      have HN := Lib.hid hn
      have hsl : ∀ u, (Instr.slice 28 bv (some (.int .i64 4)) none none).run Tryz.prog u = .ok mv u := hsl
      have HM := Lib.hid hmv
      clear HPT f5 hn ho hrd hmv
      go_wp2_with fail
      refine (frame_All mv (s.drop 4) w3 (HM.out w3 HR.out) (by rw [List.length_drop]; have := HN.out; omega)).mono ?_
      rintro e w4 ⟨fv, rfl, hfo, hb⟩
      replace HX := Lib.hid (HX.out.later hb)
      replace HY := Lib.hid (HY.out.later hb)
      replace HR := Lib.hid (HR.out.later hb (Nat.le_refl _))
      replace HB := Lib.hid (HB.out.trans (hb.mono HB.out.size))
      rw [f1] at hfo ⊢
      dsimp only at hfo ⊢
      obtain ⟨m, hm⟩ : ∃ m, m = F.length := ⟨_, rfl⟩
      have hlf := hfo.len frameOk (by rw [f2]; have := HF.out.1; omega)
      rw [← hm] at hlf f2
      have hlf : ∀ u, (Builtin.len_ #[61] 3 #[fv]).run Tryz.prog u = .ok (.int .i64 (m : Int)) u := hlf
      have hm1 : m ≤ 31 := by have := HF.out.1; omega
      have d2 : ((m : Int) == 0) = false := by rw [beq_eq_false_iff_ne]; omega
      obtain ⟨p, hp, hpl⟩ := place_of a0 (m : Int) (by omega) (by omega)
      have hpF : p < F.length := by rw [← hm]; omega
      obtain ⟨fb, fo, pv, hidx, z0, z1, z2, hpo⟩ := hfo.get frameOk rfl (by rw [← hm]; omega) hpF
      obtain ⟨kd, pl, pre, r, hat, hpre, hpn, hk2, hsp, hturn, hburst⟩ := HP.out p hpF
      have hidx : ∀ u, (Instr.indexAt 61 fv (.int .i64 (p : Int))).run Tryz.prog u = .ok (.pointer (some ⟨fb, fo, none⟩)) u := hidx
      rw [hat] at z0 z2 hpo
      dsimp only at z0 z2 hpo
      obtain ⟨pa, pm, pc, rfl⟩ := hpo.lit
      have hplen := (hpo.rd (by omega)).len
      have HTU := Lib.hid hturn
      have HBU := Lib.hid hburst
      have HSP := Lib.hid hsp
      have HM1 := Lib.hid hm
      -- the places: the frame's, its end's, its head's
      obtain ⟨l, hl⟩ : ∃ l, l = pl.length := ⟨_, rfl⟩
      obtain ⟨P, hP⟩ : ∃ P, P = pre.length := ⟨_, rfl⟩
      obtain ⟨A, hA⟩ : ∃ A, A = pre.length - 4 := ⟨_, rfl⟩
      obtain ⟨S, hS⟩ : ∃ S, S = (frB kd pl).length := ⟨_, rfl⟩
      obtain ⟨hd, hhd⟩ : ∃ hd, hd = hdF pl := ⟨_, rfl⟩
      have hSl := hdF_len kd pl
      have hsz : szF (pl.length : Int) = (S : Int) := by
        have h1 := frB_length kd pl
        unfold szF
        rw [if_neg (by omega), Int.toNat_natCast]
        omega
      have hnl := congrArg List.length HSP.out
      rw [List.length_append, List.length_append] at hnl
      have hNN := HN.out
      have hd2 : 2 ≤ hd ∧ hd ≤ 11 := by
        have h1 := encU_pos pl.length
        have h2 := encU_le pl.length (by omega)
        rw [hhd]; unfold hdF; omega
      rw [← hl] at hplen hpn hsz hSl
      rw [← hA] at z2
      rw [← hS, ← hhd] at hSl
      obtain ⟨E, hE⟩ : ∃ E, E = P + S := ⟨_, rfl⟩
      obtain ⟨H, hH⟩ : ∃ H, H = P + hd := ⟨_, rfl⟩
      have hbnd : 4 ≤ P ∧ E ≤ n ∧ E = H + l + 4 ∧ P + 2 ≤ H ∧ l ≤ 24000 ∧ n ≤ 1000000 := by omega
      have e1 : (4 : Int) + (A : Int) = (P : Int) := by omega
      have e2 : (P : Int) + (S : Int) = (E : Int) := by omega
      have e3 : (E : Int) - 4 - (l : Int) = (H : Int) := by omega
      have d3 : decide ((P : Int) < 4) = false := decide_eq_false (by omega)
      have d4 : decide ((H : Int) < (P : Int) + 2) = false := decide_eq_false (by omega)
      have d5 : decide (n < E) = false := decide_eq_false (by omega)
      have hPw : P ≤ 1000000 ∧ A ≤ 1000000 ∧ S ≤ 1000000 ∧ E ≤ 1000000 ∧ H ≤ 1000000 := by omega
      have HL := Lib.hid (And.intro hl (And.intro hP (And.intro hS (And.intro hhd (And.intro hSl (And.intro hE (And.intro hH hnl)))))))
      have HBN := Lib.hid hbnd
      obtain ⟨hP1, hA1, hS1, hE1, hH1⟩ := hPw
      have N3 := new_one12 w4 (.cells #[.int .i64 (kd : Int), .slice pa pm pc, .int .i64 (A : Int)] 65)
      clear hb hsl HM f1 hturn hburst hsp hat HP hfo hm hpF f2 hl hP hA hS hhd hSl hnl hNN hE hH hbnd hpre hpn
      go_wp2_with fail
      refine (frame_Size (l : Int) (by omega) (by omega) _).mono ?_
      rintro e w9x ⟨rfl, rfl⟩
      rw [hsz]
      obtain ⟨w5, hw5⟩ : ∃ w5, w5 = w4.alloc (.cells #[.int .i64 (kd : Int), .slice pa pm pc, .int .i64 (A : Int)] 65) := ⟨_, rfl⟩
      rw [← hw5] at N3 ⊢
      obtain ⟨g5, hg5⟩ : ∃ g5, g5 = w4.heap.size := ⟨_, rfl⟩
      have k1 : w5.cell? ⟨g5, 1, none⟩ = some (.slice pa pm pc) := by rw [hg5, cell_of_row _ _ _ _ _ _ N3.1]; rfl
      rw [← hg5]
      replace HX := Lib.hid (HX.out.later N3.2)
      replace HY := Lib.hid (HY.out.later N3.2)
      replace HR := Lib.hid (HR.out.later N3.2 (Nat.le_refl _))
      replace HB := Lib.hid (HB.out.trans (N3.2.mono HB.out.size))
      clear hw5 hg5 N3 hsz
      have hlen := HR.out.len
      rw [← HN.out] at hlen
      have hbe := (Below.refl w5.heap.size w5).alloc (Nat.le_refl _) (.cells #[] 5)
      go_wp2_with (with_reducible refine wpl_append w5.heap.size _ [] ?hs5 (own_empty w5 w5.heap.size (Nat.le_refl _)) _ s ?hx5 (HR.out.alloc _) ?hn5 ?hbase5 w5.heap.size w5 hbe (Nat.le_refl _) ?_)
      case hs5 => rfl
      case hx5 => rfl
      case hn5 => have := HN.out; have := HBN.out; simp; omega
      case hbase5 => simp
      intro v6 w6 ho6 hb6 _
      rw [List.nil_append] at ho6
      have HM := Lib.hid (And.intro (own_block_lt ho6) hb6.size)
      have HI := Lib.hid (And.intro (ho6.alloc (.map #[] 0)) (And.intro (SetI.made w6) (hb6.alloc hb6.size (.map #[] 0))))
      have htl0 : s.length = n := HN.out.symm
      have HT0 := Lib.hid (show Turn13 pre (frB kd pl) r hd s [] 0 from by rw [HSP.out]; exact Turn13.start)
      obtain ⟨J, hJ⟩ : ∃ J, J = l + 5 := ⟨_, rfl⟩
      have e4 : (1 : Int) + (E : Int) - (H : Int) = (J : Int) := by have := HBN.out; omega
      have hJ1 : J ≤ 24005 ∧ 5 ≤ J := by have := HBN.out; omega
      have hmm := @run_makeMap Tryz.prog
      have HJ := Lib.hid hJ
      clear ho6 hb6 hbe k1 hplen hJ
      go_wp2
      clear hmm hlen
      go_loopw [116] (fun c wr => ∃ (k : Nat) (t : List UInt8) (ps : List Nat), k ≤ 3 ∧ c = .int .i64 k ∧ Hid (Own wr w5.heap.size v6 t ∧ SetI wr w6.heap.size ps ∧ Below w5.heap.size w5 wr) ∧ t.length = n ∧ Hid (Turn13 pre (frB kd pl) r hd t ps k)) (fun c _ => 3 - (intOf c).toNat)
      case atStart => exact ⟨0, s, [], by omega, rfl, HI, htl0, HT0⟩
      case round =>
        obtain ⟨k, t, ps, hk, rfl, HRr, htl, HT⟩ := hrel
        by_cases hlt : k < 3
        · obtain ⟨x, xo, hia, hca⟩ := (HY.out.later HRr.out.2.2).at k hlt
          obtain ⟨p, hp, hpl⟩ := place_of x (8 * (J : Int)) (by omega) (by omega)
          have hpJ : p < 8 * (l + 5) := by have := HJ.out; omega
          by_cases hp8 : p < 8
          · have d6 : decide ((p : Int) < 8) = true := decide_eq_true (by omega)
            obtain ⟨z, hz⟩ : ∃ z, z = p + 8 * P := ⟨_, rfl⟩
            have ez : (p : Int) + 8 * (P : Int) = (z : Int) := by omega
            have hqz := Lib.hid (show z = p + 8 * pre.length by rw [hz, HL.out.2.1])
            have hqS : p < 8 * (frB kd pl).length := by have := HL.out; omega
            have hqf : p < 8 ∨ 8 * hd ≤ p := .inl hp8
            have hzn : z < 8 * n := by have := HBN.out; omega
            clear hz hp8
            have hlook := HRr.out.2.1.look z (by omega)
            by_cases hcon : ps.contains z = true
            · rw [hcon] at hlook
              go_wp2_with (with_reducible refine wpl_setPlace w6.heap.size ps HRr.out.2.1 ?hm z ?hz ?hx ?hv ?hn ?_)
              case hm => rfl
              case hz => omega
              case hx => rfl
              case hv => rfl
              case hn => have := HT.out.len.2; unfold maxLen; omega
              intro w8 hi8 hg8
              have ho8 := HRr.out.1.grown hg8 (fun j hj e => by have := HM.out.1 j hj; injection e with e; omega)
              have hb8 := HRr.out.2.2.grown hg8 HRr.out.2.2.size (fun j hj => by injection hj with hj; have := HM.out.2; omega)
              have HR8 := Lib.hid (And.intro ho8 (And.intro hi8 hb8))
              have HT8 := Lib.hid (HT.out.old hqz.out hqS hcon)
              clear ho8 hi8 hb8 hg8 hlook HRr hia hca ez HT
              go_wp2
              go_roundw
              case rel => exact ⟨k + 1, t, z :: ps, by omega, by go_num, HR8, htl, HT8⟩
              case measure => simp [intOf]; omega
            · have hcon : ps.contains z = false := by simpa using hcon
              rw [hcon] at hlook
              have hq8 : z / 8 < t.length := by omega
              obtain ⟨hrg, hfr, hBg⟩ := HRr.out.1.set hq8 (UInt8.ofNat ((t.getD (z / 8) 0).toNat ^^^ 2 ^ (z % 8)))
              rw [← xor_bit t z] at hrg
              have hset := HRr.out.1.set_grown hq8 (.int .u8 (bits .xor .u8 (at8 t (z / 8)) (2 ^ (z % 8) % 256)))
              have hrt := HRr.out.1.rd (by omega)
              have hidz := hrt.idx (z / 8) hq8
              have hcel := hrt.cells (z / 8) hq8
              rw [show ((z / 8 : Nat) : Int) = (z : Int) / 8 from by omega] at hidz
              have hi5 := HRr.out.2.1.kept hset (fun e => by have := HM.out.1 _ e.symm; omega)
              have hb5 := HRr.out.2.2.setCell hBg (.int .u8 (bits .xor .u8 (at8 t (z / 8)) (2 ^ (z % 8) % 256)))
              have hrg2 := hrg.drew
              have hi52 := hi5.drew
              have hb52 := hb5.drew
              go_wp2_with fail
              go_region
              obtain ⟨wx, hwx⟩ : ∃ wx, wx = (wr.setCell (adr v6 (z / 8)) (.int .u8 (bits .xor .u8 (at8 t (z / 8)) (2 ^ (z % 8) % 256)))).drew := ⟨_, rfl⟩
              rw [← hwx] at hrg2 hi52 hb52 ⊢
              clear hwx hrg hfr hBg hrt hcel hidz hset hi5 hb5 hlook hia hca HRr
              go_wp2_with (with_reducible refine wpl_setPlace w6.heap.size ps hi52 ?hm z ?hz ?hx ?hv ?hn ?_)
              case hm => rfl
              case hz => omega
              case hx => rfl
              case hv => rfl
              case hn => have := HT.out.len.2; unfold maxLen; omega
              intro w8 hi8 hg8
              have ho8 := hrg2.grown hg8 (fun j hj e => by have := HM.out.1 j hj; injection e with e; omega)
              have hb8 := hb52.grown hg8 hb52.size (fun j hj => by injection hj with hj; have := HM.out.2; omega)
              have HR8 := Lib.hid (And.intro ho8 (And.intro hi8 hb8))
              have HT8 := Lib.hid (HT.out.new hqz.out hqS hqf hcon)
              clear ho8 hi8 hb8 hg8 hrg2 hi52 hb52 ez HT
              go_wp2
              go_roundw
              case rel => exact ⟨k + 1, Crc.flip t z, z :: ps, by omega, by go_num, HR8, by rw [Crc.flip_length]; exact htl, HT8⟩
              case measure => simp [intOf]; omega
          · have d6 : decide ((p : Int) < 8) = false := decide_eq_false (by omega)
            obtain ⟨z, hz⟩ : ∃ z, z = p + 8 * (H - 1) := ⟨_, rfl⟩
            have ez : (p : Int) + 8 * ((H : Int) - 1) = (z : Int) := by have := HBN.out; omega
            obtain ⟨q, hq⟩ : ∃ q, q = p - 8 + 8 * hd := ⟨_, rfl⟩
            have hqz := Lib.hid (show z = q + 8 * pre.length by have := HL.out; have := HBN.out; omega)
            have hqS : q < 8 * (frB kd pl).length := by have := HL.out; have := HBN.out; omega
            have hqf : q < 8 ∨ 8 * hd ≤ q := .inr (by omega)
            have hzn : z < 8 * n := by have := HBN.out; omega
            clear hz hp8 hq
            have hlook := HRr.out.2.1.look z (by omega)
            by_cases hcon : ps.contains z = true
            · rw [hcon] at hlook
              go_wp2_with (with_reducible refine wpl_setPlace w6.heap.size ps HRr.out.2.1 ?hm z ?hz ?hx ?hv ?hn ?_)
              case hm => rfl
              case hz => omega
              case hx => rfl
              case hv => rfl
              case hn => have := HT.out.len.2; unfold maxLen; omega
              intro w8 hi8 hg8
              have ho8 := HRr.out.1.grown hg8 (fun j hj e => by have := HM.out.1 j hj; injection e with e; omega)
              have hb8 := HRr.out.2.2.grown hg8 HRr.out.2.2.size (fun j hj => by injection hj with hj; have := HM.out.2; omega)
              have HR8 := Lib.hid (And.intro ho8 (And.intro hi8 hb8))
              have HT8 := Lib.hid (HT.out.old hqz.out hqS hcon)
              clear ho8 hi8 hb8 hg8 hlook HRr hia hca ez HT
              go_wp2
              go_roundw
              case rel => exact ⟨k + 1, t, z :: ps, by omega, by go_num, HR8, htl, HT8⟩
              case measure => simp [intOf]; omega
            · have hcon : ps.contains z = false := by simpa using hcon
              rw [hcon] at hlook
              have hq8 : z / 8 < t.length := by omega
              obtain ⟨hrg, hfr, hBg⟩ := HRr.out.1.set hq8 (UInt8.ofNat ((t.getD (z / 8) 0).toNat ^^^ 2 ^ (z % 8)))
              rw [← xor_bit t z] at hrg
              have hset := HRr.out.1.set_grown hq8 (.int .u8 (bits .xor .u8 (at8 t (z / 8)) (2 ^ (z % 8) % 256)))
              have hrt := HRr.out.1.rd (by omega)
              have hidz := hrt.idx (z / 8) hq8
              have hcel := hrt.cells (z / 8) hq8
              rw [show ((z / 8 : Nat) : Int) = (z : Int) / 8 from by omega] at hidz
              have hi5 := HRr.out.2.1.kept hset (fun e => by have := HM.out.1 _ e.symm; omega)
              have hb5 := HRr.out.2.2.setCell hBg (.int .u8 (bits .xor .u8 (at8 t (z / 8)) (2 ^ (z % 8) % 256)))
              have hrg2 := hrg.drew
              have hi52 := hi5.drew
              have hb52 := hb5.drew
              go_wp2_with fail
              go_region
              obtain ⟨wx, hwx⟩ : ∃ wx, wx = (wr.setCell (adr v6 (z / 8)) (.int .u8 (bits .xor .u8 (at8 t (z / 8)) (2 ^ (z % 8) % 256)))).drew := ⟨_, rfl⟩
              rw [← hwx] at hrg2 hi52 hb52 ⊢
              clear hwx hrg hfr hBg hrt hcel hidz hset hi5 hb5 hlook hia hca HRr
              go_wp2_with (with_reducible refine wpl_setPlace w6.heap.size ps hi52 ?hm z ?hz ?hx ?hv ?hn ?_)
              case hm => rfl
              case hz => omega
              case hx => rfl
              case hv => rfl
              case hn => have := HT.out.len.2; unfold maxLen; omega
              intro w8 hi8 hg8
              have ho8 := hrg2.grown hg8 (fun j hj e => by have := HM.out.1 j hj; injection e with e; omega)
              have hb8 := hb52.grown hg8 hb52.size (fun j hj => by injection hj with hj; have := HM.out.2; omega)
              have HR8 := Lib.hid (And.intro ho8 (And.intro hi8 hb8))
              have HT8 := Lib.hid (HT.out.new hqz.out hqS hqf hcon)
              clear ho8 hi8 hb8 hg8 hrg2 hi52 hb52 ez HT
              go_wp2
              go_roundw
              case rel => exact ⟨k + 1, Crc.flip t z, z :: ps, by omega, by go_num, HR8, by rw [Crc.flip_length]; exact htl, HT8⟩
              case measure => simp [intOf]; omega
        · obtain rfl : k = 3 := by omega
          have hne := HTU.out t ps (by have := HT.out; rw [HL.out.2.2.2.1] at this; exact this)
          have DC := Lib.hid (KD.out wr v6 t (HB.out.trans (HRr.out.2.2.mono HB.out.size)) (HRr.out.1.rd (by omega)))
          have HRb := Lib.hid HRr.out.2.2
          obtain ⟨R, hR⟩ : ∃ R, R = (trD t).2.2.2.2 := ⟨_, rfl⟩
          obtain ⟨R2, hR2⟩ : ∃ R2, R2 = (trD t).2.2.2.1 := ⟨_, rfl⟩
          rw [← hR] at hne
          have hne : ((R : Int) == 0) = false := by rw [beq_eq_false_iff_ne]; omega
          clear HRr HT htl hlt hk
          go_wp2_with fail
          refine DC.out.mono ?_
          rintro e w10 ⟨tv, rfl, hT, _, hb⟩
          rw [← hR, ← hR2]
          obtain ⟨sv, ev, rfl, hRs, hZ⟩ := hT
          obtain ⟨a9, n9, c9, rfl⟩ := hZ.lit
          obtain ⟨a8, n8, c8, rfl⟩ := hRs.lit12
          have hb10 := HRb.out.trans (hb.mono HRb.out.size)
          clear hRs hZ hb DC HRb hR hR2 HM HI HT0
          by_cases hy0 : y = 0
          · subst hy0
            go_wp2
            go_ret
            exact ⟨rfl, (HB.out.trans (hb10.mono HB.out.size)).alloc (HB.out.trans (hb10.mono HB.out.size)).size _⟩
          · have hy1 : ((y : Int) == 0) = false := by rw [beq_eq_false_iff_ne]; omega
            obtain ⟨_, N5⟩ := new_one12 w10 (.cells #[.slice a8 n8 c8, .slice a9 n9 c9] 25)
            have HB11 := Lib.hid (hb10.trans (N5.mono hb10.size))
            clear hb10 N5
            have e11 : (w10.alloc (.cells #[.slice a8 n8 c8, .slice a9 n9 c9] 25)).heap.size = w10.heap.size + 1 := by simp
            have hR11 := HR.out.later HB11.out (Nat.le_refl _)
            have hbe2 := (Below.refl (w10.alloc (.cells #[.slice a8 n8 c8, .slice a9 n9 c9] 25)).heap.size (w10.alloc (.cells #[.slice a8 n8 c8, .slice a9 n9 c9] 25))).alloc (Nat.le_refl _) (.cells #[] 5)
            have hoe := own_empty (w10.alloc (.cells #[.slice a8 n8 c8, .slice a9 n9 c9] 25)) (w10.heap.size + 1) (by rw [e11]; exact Nat.le_refl _)
            rw [e11] at hbe2 hoe
            go_wp2_with (with_reducible refine wpl_append (w10.heap.size + 1) _ [] ?hs7 hoe _ s ?hx7 (hR11.alloc _) ?hn7 ?hbase7 (w10.heap.size + 1) (w10.alloc (.cells #[.slice a8 n8 c8, .slice a9 n9 c9] 25)) hbe2 (Nat.le_refl _) ?_)
            case hs7 => rfl
            case hx7 => rfl
            case hn7 => have := HN.out; have := HBN.out; simp; omega
            case hbase7 => simp
            intro v12 w12 ho12 hb12 _
            rw [List.nil_append] at ho12
            obtain ⟨w11, hw11⟩ : ∃ w11, w11 = w10.alloc (.cells #[.slice a8 n8 c8, .slice a9 n9 c9] 25) := ⟨_, rfl⟩
            rw [← hw11] at hb12 HB11 e11
            have HB12 := Lib.hid (HB11.out.trans (hb12.mono (by have := HB11.out.size; omega)))
            have HS11 := Lib.hid (show w5.heap.size ≤ w10.heap.size + 1 by have := HB11.out.size; omega)
            obtain ⟨B11, hB11⟩ : ∃ B11, B11 = w10.heap.size + 1 := ⟨_, rfl⟩
            rw [← hB11] at ho12 hb12 HS11
            clear hw11 hR11 hbe2 hoe e11 hB11
            obtain ⟨_, q1⟩ := (HY.out.later HB12.out).cell
            have hia0 : ∀ u, (Instr.indexAt 60 (.slice (some ⟨g2, 1, none⟩) 3 3) (.int .i64 0)).run Tryz.prog u = .ok (.pointer (some ⟨g2, 1, none⟩)) u := fun u => by kernel_rfl
            obtain ⟨J2, hJ2⟩ : ∃ J2, J2 = l + 4 := ⟨_, rfl⟩
            obtain ⟨M2, hM2⟩ : ∃ M2, M2 = 8 * l + 1 := ⟨_, rfl⟩
            have e5 : (E : Int) - (H : Int) = (J2 : Int) := by have := HBN.out; omega
            have e6 : 8 * (J2 : Int) - 31 = (M2 : Int) := by omega
            have hJ3 : J2 ≤ 24004 ∧ 4 ≤ J2 ∧ M2 ≤ 200000 ∧ 1 ≤ M2 := by have := HBN.out; omega
            have HJ2 := Lib.hid (And.intro hJ2 hM2)
            obtain ⟨p, hp, hpl⟩ := place_of a1 (M2 : Int) (by omega) (by omega)
            obtain ⟨Q, hQ⟩ : ∃ Q, Q = 8 * H + p := ⟨_, rfl⟩
            have e7 : 8 * (H : Int) + (p : Int) = (Q : Int) := by omega
            have hQn : Q + 32 ≤ 8 * n := by have := HBN.out; omega
            have hQ8 := Lib.hid (show Q = 8 * hd + p + 8 * pre.length ∧ 8 * hd + p + 32 ≤ 8 * (frB kd pl).length by have := HL.out; have := HBN.out; omega)
            have HT0 := Lib.hid (show Burst13 pre (frB kd pl) r hd (8 * hd + p) y s 0 from by rw [HSP.out]; exact Burst13.start)
            have HO0 := Lib.hid (And.intro ho12 hb12)
            clear hJ2 hM2 hQ ho12 hb12
            go_wp2
            clear q1 hia0 e5 e6 e7 hp hpl
            go_loopw [186] (fun c wr => ∃ (k : Nat) (t : List UInt8), k ≤ 32 ∧ c = .int .i64 k ∧ t.length = n ∧ Hid (Burst13 pre (frB kd pl) r hd (8 * hd + p) y t k) ∧ Hid (Own wr B11 v12 t ∧ Below B11 w11 wr)) (fun c _ => 32 - (intOf c).toNat)
            case atStart => exact ⟨0, s, by omega, rfl, htl0, HT0, HO0⟩
            case round =>
              obtain ⟨k, t, hk, rfl, htl, HT, HOw⟩ := hrel
              by_cases hlt : k < 32
              · have hnb := bit_and hy k
                by_cases hbit : y / 2 ^ k % 2 = 1
                · rw [hbit] at hnb
                  have hq : (Q + k) / 8 < t.length := by omega
                  obtain ⟨hrg, hfr, hBg⟩ := HOw.out.1.set hq (UInt8.ofNat ((t.getD ((Q + k) / 8) 0).toNat ^^^ 2 ^ ((Q + k) % 8)))
                  have hrt := HOw.out.1.rd (by omega)
                  have hidz := hrt.idx ((Q + k) / 8) hq
                  have hcel := hrt.cells ((Q + k) / 8) hq
                  rw [show (((Q + k) / 8 : Nat) : Int) = ((Q : Int) + (k : Int)) / 8 from by omega] at hidz
                  have HO8 := Lib.hid (show Own (wr.setCell (adr v12 ((Q + k) / 8)) (.int .u8 (bits .xor .u8 (at8 t ((Q + k) / 8)) (2 ^ ((Q + k) % 8) % 256)))).drew B11 v12 (Crc.flip t (Q + k)) ∧ Below B11 w11 (wr.setCell (adr v12 ((Q + k) / 8)) (.int .u8 (bits .xor .u8 (at8 t ((Q + k) / 8)) (2 ^ ((Q + k) % 8) % 256)))).drew from ⟨by rw [xor_bit t (Q + k)]; exact hrg.drew, (HOw.out.2.setCell hBg _).drew⟩)
                  have HT8 := Lib.hid (HT.out.yes (z := Q + k) hbit (by have := hQ8.out.1; omega) (by have := hQ8.out.2; omega) (by omega))
                  clear hrg hBg
                  go_wp2_with fail
                  go_region
                  clear hidz hcel hrt hfr HT HOw
                  go_wp2
                  go_roundw
                  case rel => exact ⟨k + 1, Crc.flip t (Q + k), by omega, by go_num, by rw [Crc.flip_length]; exact htl, HT8, HO8⟩
                  case measure => simp [intOf]; omega
                · rw [show y / 2 ^ k % 2 = 0 from by omega] at hnb
                  have HT8 := Lib.hid (HT.out.no (show y / 2 ^ k % 2 = 0 from by omega))
                  clear HT
                  go_wp2_with fail
                  go_roundw
                  case rel => exact ⟨k + 1, t, by omega, by go_num, htl, HT8, HOw⟩
                  case measure => simp [intOf]; omega
              · obtain rfl : k = 32 := by omega
                obtain ⟨E1, E2⟩ := HBU.out (8 * hd + p) y t (by have := hQ8.out.2; omega) hy0 hy (by have := HT.out; rw [HL.out.2.2.2.1] at this ⊢; exact this)
                rw [← HL.out.2.1] at E1
                have DC := Lib.hid (KD.out wr v12 t (HB.out.trans ((HB11.out.trans (HOw.out.2.mono HS11.out)).mono HB.out.size)) (HOw.out.1.rd (by omega)))
                have HRb := Lib.hid (HB11.out.trans (HOw.out.2.mono HS11.out))
                have HE := Lib.hid (And.intro E1 E2)
                clear E1 E2 HT HOw htl hlt hk
                go_wp2_with fail
                refine DC.out.mono ?_
                rintro e w14 ⟨tv, rfl, hT, _, hb⟩
                rw [HE.out.1, HE.out.2]
                obtain ⟨sv, ev, rfl, hRs, hZ⟩ := hT
                obtain ⟨a7, n7, c7, rfl⟩ := hZ.lit
                obtain ⟨a6, n6, c6, rfl⟩ := hRs.lit12
                have hb14 := HB.out.trans ((HRb.out.trans (hb.mono HRb.out.size)).mono HB.out.size)
                clear hRs hZ hb DC HRb HE
                go_wp2
                go_ret
                exact ⟨rfl, hb14.alloc hb14.size _⟩
    · have q9 : ((er : Int) != 0) = true := by rw [bne_iff_ne]; omega
      clear HPT ho
      go_wp2
      go_ret
      exact ⟨rfl, HB.out⟩
  · clear hf
    go_wp2_with fail
    refine (K.alive w2 HB.out).mono ?_
    rintro e w3 ⟨rfl, hb⟩
    replace HB := Lib.hid (HB.out.trans (hb.mono HB.out.size))
    clear hb
    go_wp2
    go_ret
    exact ⟨rfl, HB.out⟩

end Go.Proofs.YtmbpdpcinhhclaaGreatDoor
