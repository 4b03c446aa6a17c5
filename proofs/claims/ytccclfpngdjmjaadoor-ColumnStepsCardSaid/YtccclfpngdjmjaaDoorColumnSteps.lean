/-
  ColumnSteps: the law's own walk.
-/
import Derived.Test.YtccclfpngdjmjaaDoorColumnOne
import Derived.Test.YtccclfpngdjmjaaDoorGColTk
import Derived.Test.YtccclfpngdjmjaaDoorGBaseA
set_option linter.unusedVariables false
set_option linter.unusedSimpArgs false
set_option maxRecDepth 1000000
namespace Go.Proofs.YtccclfpngdjmjaaDoor
open Go.RowKit Go.Shelf

theorem rdi_three (w : World) : RdI .i64 (w.alloc (.cells #[.int .i64 0, .int .i64 1, .int .i64 5] 3)) (.slice (some ⟨w.heap.size, 0, none⟩) 3 3) [0, 1, 5] := by
  refine ⟨⟨_, _, rfl, by simp, (fun h => by cases h), fun _ => ⟨_, _, rfl⟩⟩, fun i hi => ?_, ?_, by simp⟩
  · have hi : i < 3 := hi
    rw [adr_lit, cell_of_row _ _ _ _ _ _ (heap_alloc_new w _)]
    obtain rfl | rfl | rfl : i = 0 ∨ i = 1 ∨ i = 2 := by omega
    · rfl
    · rfl
    · rfl
  · intro x hx
    simp only [List.mem_cons, List.not_mem_nil, or_false] at hx
    rcases hx with rfl | rfl | rfl <;> rfl

theorem addZ_wrap9 (p y : Nat) : IntKind.u64.wrap ((p : Int) + IntKind.u64.wrap (zag y)) = (addZ p y : Int) := by
  rw [IntKind.wrap_u64, IntKind.wrap_u64]
  unfold addZ
  omega

theorem num_fit {kind : Int} (hk : kind = 0 ∨ kind = 1 ∨ kind = 5) {x : Nat} (hx : x < 18446744073709551616) : Fit kind (x, []) :=
  ⟨checkC_num (by omega) (by omega) (fun h => by omega), hx⟩
/-- The bytes of numbers that rise by so much. -/
theorem steps_len {kind : Int} (hk : kind = 0 ∨ kind = 1 ∨ kind = 5) (x0 : Nat) (r : List CellB) (E : Nat) (h : (stp x0 (numL r)).length = r.length * E) :
    (wrC kind (cesL ((x0, ⟨#[]⟩) :: r))).length = (wrC kind (cesL [((x0, ⟨#[]⟩) : CellB)])).length + r.length * E := by
  by_cases h0 : kind = 0
  · subst h0
    rw [wrC_ints, wrC_ints, numL_cesL, numL_cesL]
    show (stp 0 (x0 :: numL r)).length = (stp 0 [x0]).length + _
    rw [stp, stp, stp, List.length_append, h]; simp
  · have e1 : cesL ((x0, ⟨#[]⟩) :: r) = (x0, []) :: cesL r := rfl
    have e2 : cesL [((x0, ⟨#[]⟩) : CellB)] = [(x0, [])] := rfl
    rw [e1, e2, wrC_uints (by omega), wrC_uints (by omega), numL_cesL, List.length_append, h]
    simp [stp]

/-- Numbers that have been laid one behind the other. -/
def Rise (x0 z E j px : Nat) (cs : List CellB) : Prop :=
  (j = 0 ∧ cs = [] ∧ px = x0) ∨ (∃ r, cs = (x0, ⟨#[]⟩) :: r ∧ r.length + 1 = j ∧ px = addZ (lastN x0 (numL r)) z ∧ (stp x0 (numL r)).length = r.length * E)
theorem rise_step {x0 z E j px : Nat} {cs : List CellB} (hz : z < 18446744073709551616) (hE : E = (encU z).length) (h : Rise x0 z E j px cs) : Rise x0 z E (j + 1) (addZ px z) (cs ++ [(px, ⟨#[]⟩)]) := by
  rcases h with ⟨rfl, rfl, rfl⟩ | ⟨r, rfl, h1, h2, h3⟩
  · exact .inr ⟨[], rfl, rfl, rfl, by simp [numL, stp]⟩
  · have e : numL (r ++ [((px, ⟨#[]⟩) : CellB)]) = numL r ++ [px] := by unfold numL; simp
    refine .inr ⟨r ++ [(px, ⟨#[]⟩)], rfl, by simp [h1], ?_, ?_⟩
    · rw [e, lastN_snoc]
    · rw [e, stp_snoc, List.length_append, h3, h2, stepZ_addZ hz, ← hE, List.length_append, List.length_singleton, Nat.add_mul, Nat.one_mul]

set_option maxHeartbeats 16000000 in
theorem columnSteps_walk (first step a : Int) (w : World) (hf : 0 ≤ first ∧ first ≤ 18446744073709551615) (hs : -9223372036854775808 ≤ step ∧ step ≤ 9223372036854775807) (ha : 0 ≤ a ∧ a ≤ 255) (hT : Tabs w) :
    Calls Tryd.prog 9 #[.int .u64 first, .int .i64 step, .int .u8 a] w fun e w' => e = .returned (.bool true) ∧ Below w.heap.size w w' := by
  obtain ⟨x0, rfl⟩ : ∃ x0 : Nat, first = (x0 : Int) := ⟨first.toNat, by omega⟩
  obtain ⟨n, hn⟩ : ∃ n : Nat, 1 + a % 50 = (n : Int) := ⟨(1 + a % 50).toNat, by omega⟩
  have hn1 : 1 ≤ n ∧ n ≤ 50 := by omega
  obtain ⟨z, hz⟩ : ∃ z, z = zig step := ⟨_, rfl⟩
  have hzl : z < 2 ^ 64 := by rw [hz]; exact zig_lt _ hs.1 hs.2
  have hzz : zag z = step := by rw [hz]; exact zag_zig step
  obtain ⟨E, hE⟩ : ∃ E, E = (encU z).length := ⟨_, rfl⟩
  have hEl : E ≤ 10 := by rw [hE]; exact encU_le z (by omega)
  have hx0 : x0 < 18446744073709551616 := by omega
  have HZ := Lib.hid hz
  have HZL := Lib.hid hzl
  have HZZ := Lib.hid hzz
  have HE := Lib.hid hE
  have HT := Lib.hid hT
  have HB0 := Lib.hid (Below.refl w.heap.size w)
  have HS := Lib.hid hs
  have HX0 := Lib.hid hx0
  clear hz hzl hzz hE hf hs hT hx0
  go_enter Tryd.func9, Tryd.ntmps9
  go_wp2
  go_loopw [8, 9, 22] (fun b v9 i wr => ∃ (j px : Nat) (cs : List CellB), j ≤ n ∧ i = .int .i64 j ∧ v9 = .int .u64 (px : Int) ∧ Hid (px < 18446744073709551616) ∧ Hid (cs.length = j) ∧ Hid (Below w.heap.size w wr) ∧ Hid (OwnE wr w.heap.size b cs) ∧ Hid (CES cs) ∧ Hid (Rise x0 z E j px cs) ∧ Hid (∀ c ∈ cs, c.2 = ⟨#[]⟩)) (fun _ _ i _ => n - (intOf i).toNat)
  case atStart => exact ⟨0, x0, [], by omega, rfl, rfl, HX0, Lib.hid rfl, HB0, Lib.hid (OwnE.nil _ _), Lib.hid CES.nil, Lib.hid (.inl ⟨rfl, rfl, rfl⟩), Lib.hid (fun c hc => absurd hc (by simp))⟩
  case round =>
    clear HB0
    obtain ⟨j, px, cs, hj, rfl, rfl, HP, HL, HB, HO, HC, HRi, HEm⟩ := hrel
    by_cases hlt : j < n
    · have d1 : decide ((j : Int) < (n : Int)) = true := decide_eq_true (by omega)
      have hw := addZ_wrap9 px z
      rw [HZZ.out] at hw
      have h1c := Lib.hid (show ∀ j z, (cellVs (px, ⟨#[]⟩))[j]? = some z → (wr.alloc (.cells #[.int .u64 (px : Int), .string ⟨#[]⟩] 44)).cell? (Addr.add ⟨wr.heap.size, 0, none⟩ j) = some z from one_cellv wr (px, ⟨#[]⟩))
      have HB7 := Lib.hid (show Below w.heap.size w (wr.alloc (.cells #[.int .u64 (px : Int), .string ⟨#[]⟩] 44)) from HB.out.alloc HB.out.size _)
      have HW7 := Lib.hid (HO.out.alloc (.cells #[.int .u64 (px : Int), .string ⟨#[]⟩] 44))
      have HP8 := Lib.hid (addZ_lt px z)
      have HR8 := Lib.hid (rise_step (by have := HZL.out; omega) HE.out HRi.out)
      have HC8 := Lib.hid (HC.out.snoc (c := (px, ⟨#[]⟩)) ⟨HP.out, by show (ByteArray.size ⟨#[]⟩) ≤ 140737488351232; decide⟩)
      have HL8 := Lib.hid (show (cs ++ [((px, ⟨#[]⟩) : CellB)]).length = j + 1 by rw [List.length_append, List.length_singleton, HL.out])
      have HE8 := Lib.hid (show ∀ c ∈ cs ++ [((px, ⟨#[]⟩) : CellB)], c.2 = ⟨#[]⟩ from fun c hc => by
        rcases List.mem_append.1 hc with hc | hc
        · exact HEm.out c hc
        · rw [List.mem_singleton.1 hc])
      generalize addZ px z = py at *
      go_wp2_with (with_reducible refine wplE_append w.heap.size _ ?hs HW7.out ⟨wr.heap.size, 0, none⟩ (px, ⟨#[]⟩) ?hx h1c.out ?hn ?hbase w.heap.size w HB7.out (Nat.le_refl _) ?_)
      case hs => rfl
      case hx => rfl
      case hn => rw [HL.out]; omega
      case hbase => rw [World.size_alloc]; have := HB.out.size; omega
      intro v8 w8 hW8 hB8 hg8
      have HW8 := Lib.hid hW8
      have HB8 := Lib.hid hB8
      clear hW8 hB8 hg8 HO HB HC HRi HEm HL HP HB7 HW7 h1c
      go_wp2
      go_roundw
      case rel => exact ⟨j + 1, py, _, by omega, by go_num, rfl, HP8, HL8, HB8, HW8, HC8, HR8, HE8⟩
      case measure => simp [intOf]; omega
    · obtain rfl : j = n := by omega
      have d1 : decide ((j : Int) < (j : Int)) = false := decide_eq_false (by omega)
      obtain ⟨r, hcs, hrl, hst⟩ : ∃ r, cs = (x0, ⟨#[]⟩) :: r ∧ r.length + 1 = j ∧ (stp x0 (numL r)).length = r.length * E := by
        rcases HRi.out with ⟨h, _⟩ | ⟨r, h1, h2, _, h3⟩
        · omega
        · exact ⟨r, h1, h2, h3⟩
      subst hcs
      have HB7 := Lib.hid (show Below w.heap.size w (wr.alloc (.cells #[.int .i64 0, .int .i64 1, .int .i64 5] 3)) from HB.out.alloc HB.out.size _)
      have HI7 := Lib.hid (rdi_three wr)
      have HR7 := Lib.hid (show RdE (wr.alloc (.cells #[.int .i64 0, .int .i64 1, .int .i64 5] 3)) u8 ((x0, ⟨#[]⟩) :: r) from (HO.out.alloc _).rd (by rw [HL.out]; omega))
      obtain ⟨rl, hrl0⟩ : ∃ rl, rl = r.length := ⟨_, rfl⟩
      obtain ⟨p, hp0⟩ : ∃ p, p = rl * E := ⟨_, rfl⟩
      have hpl : p ≤ 490 := by rw [hp0]; exact Nat.le_trans (Nat.mul_le_mul (show rl ≤ 49 by omega) hEl) (by decide)
      have hpE : (rl : Int) * (E : Int) = (p : Int) := by rw [hp0]; push_cast; rfl
      have hj1 : (j : Int) - 1 = (rl : Int) := by omega
      have HP0 := Lib.hid hp0
      have HRl := Lib.hid hrl0
      have HSt := Lib.hid (show ∀ kind : Int, kind = 0 ∨ kind = 1 ∨ kind = 5 → (wrC kind (cesL ((x0, ⟨#[]⟩) :: r))).length = (wrC kind (cesL [((x0, ⟨#[]⟩) : CellB)])).length + p from fun kind hk => by rw [hp0, hrl0]; exact steps_len hk x0 r E hst)
      have HFit := Lib.hid (show ∀ kind : Int, kind = 0 ∨ kind = 1 ∨ kind = 5 → ∀ c ∈ cesL (((x0, ⟨#[]⟩) : CellB) :: r), Fit kind c from fun kind hk c hc => by
        obtain ⟨d, hd, rfl⟩ := List.mem_map.1 hc
        have h1 := HEm.out d hd
        have h2 := (HC.out d hd).1
        unfold ceL
        rw [h1]
        exact num_fit hk h2)
      have HLn := Lib.hid (show (((x0, ⟨#[]⟩) : CellB) :: r).length ≤ 50 by rw [List.length_cons]; omega)
      clear hrl hst HO HB HRi HEm hp0 hrl0 hlt HL HP
      obtain ⟨N0, N1, N2⟩ := new1 wr (.cells #[.int .i64 0, .int .i64 1, .int .i64 5] 3)
      clear N0 N1 N2
      go_wp2_with fail
      generalize wr.alloc (.cells #[.int .i64 0, .int .i64 1, .int .i64 5] 3) = w7 at *
      generalize wr.heap.size = g7 at *
      obtain ⟨sv, hsv⟩ : ∃ sv, sv = Value.slice (some ⟨g7, 0, none⟩) 3 3 := ⟨_, rfl⟩
      rw [← hsv] at HI7 ⊢
      clear hsv
      go_loopw [36] (fun i wr => ∃ q : Nat, q ≤ 3 ∧ i = .int .i64 q ∧ Hid (Below w.heap.size w wr) ∧ Hid (RdI .i64 wr sv [0, 1, 5]) ∧ Hid (RdE wr u8 ((x0, ⟨#[]⟩) :: r))) (fun i _ => 3 - (intOf i).toNat)
      case atStart => exact ⟨0, by omega, rfl, HB7, HI7, HR7⟩
      case round =>
        clear HB7 HI7 HR7
        obtain ⟨q, hq, rfl, HB, HI, HR⟩ := hrel
        by_cases hq3 : q < 3
        · have d2 : decide ((q : Int) < 3) = true := decide_eq_true (by omega)
          have hidx := HI.out.idx (t := 52) Tryd.underlying52 (by kernel_rfl) q hq3
          have hcel := HI.out.cells q hq3
          obtain ⟨kd, hkd⟩ : ∃ kd, kd = atI [0, 1, 5] q := ⟨_, rfl⟩
          rw [← hkd] at hcel
          have hk5 : kd = 0 ∨ kd = 1 ∨ kd = 5 := by
            rw [hkd]
            obtain rfl | rfl | rfl : q = 0 ∨ q = 1 ∨ q = 2 := by omega
            · exact .inl rfl
            · exact .inr (.inl rfl)
            · exact .inr (.inr rfl)
          have hF := HFit.out kd hk5
          have hW0 := fit_wrE (kind := kd) (by omega) hF
          have hW1 : wrE kd (cesL [((x0, ⟨#[]⟩) : CellB)]) = 0 := fit_wrE (kind := kd) (by omega) (fun c hc => hF c (by
            have e : cesL (((x0, ⟨#[]⟩) : CellB) :: r) = cesL [((x0, ⟨#[]⟩) : CellB)] ++ cesL r := rfl
            rw [e]; exact List.mem_append_left _ hc))
          have hsm : 10 * (((x0, ⟨#[]⟩) : CellB) :: r).length + sumT (cesL (((x0, ⟨#[]⟩) : CellB) :: r)) ≤ 1000000 := by
            have h1 := sumT_fit hF
            rw [cesL_length] at h1
            have := HLn.out
            omega
          have hwl := wrC_le hF
          rw [cesL_length] at hwl
          have HSt2 := Lib.hid (HSt.out kd hk5)
          have HW0 := Lib.hid hW0
          have HW1 := Lib.hid hW1
          have HSm := Lib.hid hsm
          have HWl := Lib.hid hwl
          have HK5 := Lib.hid hk5
          clear hkd hF hW0 hW1 hsm hwl
          go_wp2_with fail
          refine (column_Write kd u8 ((x0, ⟨#[]⟩) :: r) wr HR.out HC.out (HT.out.later HB.out) (fun _ => HSm.out)).mono ?_
          rintro e w2 ⟨bv, rfl, hO, hb⟩
          rw [HW0.out]
          rw [HW0.out, if_pos rfl] at hO
          have HB2 := Lib.hid (HB.out.trans (hb.mono HB.out.size))
          have hblen := (hO.rd (by have := HWl.out; have := HSm.out; omega)).len
          rw [HSt2.out] at hblen
          have HR2 := Lib.hid (HR.out.later hb (Nat.le_refl _))
          have HI2 := Lib.hid (HI.out.later hb (Nat.le_refl _))
          obtain ⟨b0, o0, hi0, hc0, _⟩ := HR2.out.get (i := 0) (by simp)
          obtain ⟨hc0, hc1⟩ := hc0 _ HR2.out
          have hi0 : ∀ u, (Instr.indexAt 22 u8 (.int .i64 0)).run Tryd.prog u = .ok (.pointer (some ⟨b0, o0, none⟩)) u := hi0
          have hc0 : w2.cell? ⟨b0, o0, none⟩ = some (.int .u64 (x0 : Int)) := hc0
          have hc1 : w2.cell? ⟨b0, o0 + 1, none⟩ = some (.string ⟨#[]⟩) := hc1
          obtain ⟨ol, hol⟩ : ∃ ol, ol = (wrC kd (cesL [((x0, ⟨#[]⟩) : CellB)])).length := ⟨_, rfl⟩
          rw [← hol] at hblen
          have holl : ol ≤ 1000000 := by have h1 := HWl.out; rw [HSt2.out, ← hol] at h1; have := HSm.out; omega
          have HOl := Lib.hid hol
          obtain ⟨bl, hbl⟩ : ∃ bl, bl = ol + p := ⟨_, rfl⟩
          rw [← hbl] at hblen
          have hqe : ((bl : Int) != (ol : Int) + (p : Int)) = false := by rw [bne_eq_false_iff_eq]; omega
          have HB3 := Lib.hid (show Below w.heap.size w (w2.alloc (.cells ([((x0, ⟨#[]⟩) : CellB)].map cellVs).flatten.toArray 44)) from HB2.out.alloc HB2.out.size _)
          have HO3 := Lib.hid (ownE_built w2 w.heap.size HB2.out.size [((x0, ⟨#[]⟩) : CellB)] (by simp))
          have hal : Below w2.heap.size w2 (w2.alloc (.cells ([((x0, ⟨#[]⟩) : CellB)].map cellVs).flatten.toArray 44)) := (Below.refl _ _).alloc (Nat.le_refl _) _
          have HR3 := Lib.hid (HR2.out.later hal (Nat.le_refl _))
          have HI3 := Lib.hid (HI2.out.later hal (Nat.le_refl _))
          have CW := Lib.hid (column_Write kd (.slice (some ⟨w2.heap.size, 0, none⟩) 1 1) [((x0, ⟨#[]⟩) : CellB)] _ (HO3.out.rd (by simp)) (fun c hc => HC.out c (by rw [List.mem_singleton.1 hc]; simp)) (HT.out.later HB3.out) (fun h => by
            have := sumT_fit (wrE_fit h (fun c hc => by rw [List.mem_singleton.1 hc]; exact HX0.out)).2
            rw [cesL_length] at this
            simp at this ⊢; omega))
          clear hb hO HB HR HI hcel hidx hol hbl hal HR2 HI2 HB2 HO3
          go_wp2_with fail
          refine CW.out.mono ?_
          rintro e w4 ⟨ov, rfl, hO, hb⟩
          rw [HW1.out]
          rw [HW1.out, if_pos rfl] at hO
          have hol2 := (hO.rd (by rw [← HOl.out]; omega)).len
          rw [← HOl.out] at hol2
          have HB4 := Lib.hid (HB3.out.trans (hb.mono HB3.out.size))
          have HR4 := Lib.hid (HR3.out.later hb (Nat.le_refl _))
          have HI4 := Lib.hid (HI3.out.later hb (Nat.le_refl _))
          clear hb hO CW HB3 HR3 HI3 hc0 hc1 hi0
          go_wp2_with fail
          refine (wire_Zig step HS.out.1 HS.out.2 w4).mono ?_
          rintro e wx ⟨rfl, rfl⟩
          rw [← HZ.out]
          go_wp2_with fail
          refine (wire_Size (z : Int) (by omega) (by have := HZL.out; omega) w4).mono ?_
          rintro e wx ⟨rfl, rfl⟩
          rw [Int.toNat_natCast, ← HE.out]
          go_wp2
          go_roundw
          case rel => exact ⟨q + 1, by omega, by go_num, HB4, HI4, HR4⟩
          case measure => simp [intOf]; omega
        · obtain rfl : q = 3 := by omega
          go_wp2_with fail
          refine (law09_alive wr (HT.out.later HB.out)).mono ?_
          rintro e w2 ⟨rfl, hb⟩
          have HB2 := Lib.hid (HB.out.trans (hb.mono HB.out.size))
          clear hb HB
          go_wp2
          go_ret
          exact ⟨rfl, HB2.out⟩

end Go.Proofs.YtccclfpngdjmjaaDoor
