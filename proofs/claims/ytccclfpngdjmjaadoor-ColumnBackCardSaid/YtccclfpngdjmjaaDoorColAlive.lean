/-
  Layer 9's law: its example, and whether cells are too many.
-/
import Derived.Test.YtccclfpngdjmjaaDoorGColCw
import Derived.Test.YtccclfpngdjmjaaDoorGColRd
import Derived.Test.YtccclfpngdjmjaaDoorGBaseA
set_option linter.unusedVariables false
set_option linter.unusedSimpArgs false
set_option maxRecDepth 1000000
namespace Go.Proofs.YtccclfpngdjmjaaDoor
open Go.RowKit Go.Shelf

theorem cell_Int9 (x : Int) (n : Nat) (hn : x % 18446744073709551616 = (n : Int)) (w : World) :
    Calls Tryd.prog 27 #[.int .i64 x] w fun e w' => e = .returned (.agg #[.int .u64 (n : Int), .string ⟨#[]⟩]) ∧ Below w.heap.size w w' := by
  have hw : IntKind.u64.wrap x = (n : Int) := by
    have : IntKind.u64.wrap x = x % 18446744073709551616 := by simp [IntKind.wrap, IntKind.signed, IntKind.bits]
    omega
  clear hn
  go_enter Tryd.func27, Tryd.ntmps27
  go_wp2
  refine bodyPost_ret (by simp [results, Tryd.results27, go_sem]; try rfl) rfl ?_
  exact ⟨rfl, (Below.refl _ _).alloc (Nat.le_refl _) _⟩

theorem flat_two : ∀ (cs : List CellB), (∀ x ∈ cs.map cellVs, x.length = 2)
  | cs, x, hx => by
    obtain ⟨c, _, rfl⟩ := List.mem_map.1 hx
    rfl
theorem ownE_built (w : World) (base : Nat) (hb : base ≤ w.heap.size) (cs : List CellB) (hs : cs.length ≤ 140737488351232) :
    OwnE (w.alloc (.cells (cs.map cellVs).flatten.toArray 44)) base (.slice (some ⟨w.heap.size, 0, none⟩) cs.length cs.length) cs := by
  have := ownG_built cellE w base hb (cs.map cellVs) (flat_two cs) (by
    intro x hx u hu
    obtain ⟨c, _, rfl⟩ := List.mem_map.1 hx
    simp [cellVs] at hu
    rcases hu with rfl | rfl <;> rfl) (by rw [List.length_map]; exact hs)
  rw [List.length_map] at this
  exact this

def exA : List CellB := [(5, ⟨#[]⟩), (7, ⟨#[]⟩), (4, ⟨#[]⟩)]
def exB : List CellB := [(0, ⟨#[97, 98]⟩), (0, ⟨#[97, 98, 99]⟩), (0, ⟨#[98]⟩)]
theorem exA_ok : wrE 0 (cesL exA) = 0 ∧ wrC 0 (cesL exA) = [10, 4, 5] := by decide +kernel
theorem exB_ok : wrE 4 (cesL exB) = 0 ∧ wrC 4 (cesL exB) = [0, 2, 97, 98, 2, 1, 99, 0, 1, 98] := by decide +kernel
theorem exC_ok : rdK [5] 2 3 0 = ([(1, []), (0, []), (1, [])], 1, 0) := by decide +kernel
theorem exA_ces : CES exA := by
  intro c hc
  unfold exA at hc
  simp only [List.mem_cons, List.not_mem_nil, or_false] at hc
  rcases hc with rfl | rfl | rfl <;> exact ⟨by decide, by decide⟩
theorem exB_ces : CES exB := by
  intro c hc
  unfold exB at hc
  simp only [List.mem_cons, List.not_mem_nil, or_false] at hc
  rcases hc with rfl | rfl | rfl <;> exact ⟨by decide, by decide⟩

set_option maxHeartbeats 8000000 in
theorem law09_alive (w : World) (hT : Tabs w) :
    Calls Tryd.prog 11 #[] w fun e w' => e = .returned (.bool true) ∧ Below w.heap.size w w' := by
  have HT := Lib.hid hT
  clear hT
  go_enter Tryd.func11, Tryd.ntmps11
  go_wp2_with fail
  refine (cell_Int9 5 5 (by decide) w).mono ?_
  rintro e w1 ⟨rfl, hb1⟩
  have HB1 := Lib.hid hb1
  clear hb1
  go_wp2_with fail
  refine (cell_Int9 7 7 (by decide) w1).mono ?_
  rintro e w2 ⟨rfl, hb⟩
  have HB2 := Lib.hid (HB1.out.trans (hb.mono HB1.out.size))
  clear hb HB1
  go_wp2_with fail
  refine (cell_Int9 4 4 (by decide) w2).mono ?_
  rintro e w3 ⟨rfl, hb⟩
  have HB3 := Lib.hid (HB2.out.trans (hb.mono HB2.out.size))
  clear hb HB2
  have HB4 := Lib.hid (show Below w.heap.size w (w3.alloc (.cells (exA.map cellVs).flatten.toArray 44)) from HB3.out.alloc HB3.out.size _)
  have HA := Lib.hid (column_Write 0 (.slice (some ⟨w3.heap.size, 0, none⟩) 3 3) exA (w3.alloc (.cells (exA.map cellVs).flatten.toArray 44)) ((ownE_built w3 w.heap.size HB3.out.size exA (by decide)).rd (by decide)) exA_ces (HT.out.later HB4.out) (fun _ => by decide))
  go_wp2_with fail
  refine HA.out.mono ?_
  rintro e w5 ⟨av, rfl, hO, hb⟩
  rw [exA_ok.1]
  rw [exA_ok.1, if_pos rfl, exA_ok.2] at hO
  have HB5 := Lib.hid (HB4.out.trans (hb.mono HB4.out.size))
  have HRa := Lib.hid (hO.rd (by decide))
  clear hb hO HA HB4
  have HB6 := Lib.hid (show Below w.heap.size w (w5.alloc (.cells (exB.map cellVs).flatten.toArray 44)) from HB5.out.alloc HB5.out.size _)
  have HRa6 := Lib.hid (HRa.out.alloc (.cells (exB.map cellVs).flatten.toArray 44))
  have HA := Lib.hid (column_Write 4 (.slice (some ⟨w5.heap.size, 0, none⟩) 3 3) exB (w5.alloc (.cells (exB.map cellVs).flatten.toArray 44)) ((ownE_built w5 w.heap.size HB5.out.size exB (by decide)).rd (by decide)) exB_ces (HT.out.later HB6.out) (fun _ => by decide))
  go_wp2_with fail
  refine HA.out.mono ?_
  rintro e w7 ⟨bv, rfl, hO, hb⟩
  rw [exB_ok.1]
  rw [exB_ok.1, if_pos rfl, exB_ok.2] at hO
  have HB7 := Lib.hid (HB6.out.trans (hb.mono HB6.out.size))
  have HRb := Lib.hid (hO.rd (by decide))
  have HRa7 := Lib.hid (HRa6.out.later hb (Nat.le_refl _))
  clear hb hO HA HB6 HRa HRa6
  have HB8 := Lib.hid (show Below w.heap.size w (w7.alloc (.cells #[.int .u8 5] 5)) from HB7.out.alloc HB7.out.size _)
  have HRa8 := Lib.hid (HRa7.out.alloc (.cells #[.int .u8 5] 5))
  have HRb8 := Lib.hid (HRb.out.alloc (.cells #[.int .u8 5] 5))
  have HA := Lib.hid (column_Read 2 3 (.slice (some ⟨w7.heap.size, 0, none⟩) 1 1) [5] (w7.alloc (.cells #[.int .u8 5] 5)) (rd_one w7 5 (by decide) (by decide)) (HT.out.later HB8.out))
  go_wp2_with fail
  refine HA.out.mono ?_
  rintro e w9 ⟨hb, cv, cs, rfl, hO, hC, hcs⟩
  have hre : rdE9 [5] 2 3 = 0 := by unfold rdE9; rw [exC_ok]; rfl
  unfold rdC9 at hcs
  rw [hre, if_pos rfl, exC_ok] at hcs
  dsimp only at hcs
  rw [hre, exC_ok]
  have HB9 := Lib.hid (HB8.out.trans (hb.mono HB8.out.size))
  have hstra := (HRa8.out.later hb (Nat.le_refl _)).str
  have hstrb := (HRb8.out.later hb (Nat.le_refl _)).str
  have hl3 : cs.length = 3 := by rw [← cesL_length, hcs]; rfl
  have hrd := hO.rd (by omega)
  have hlen := hrd.len
  rw [hl3] at hlen
  have hlen : ∀ u, (Builtin.len_ #[22] 3 #[cv]).run Tryd.prog u = .ok (.int .i64 3) u := hlen
  have hn : ∀ i (hi : i < cs.length), (cs.getD i default).1 = ((cesL cs).getD i default).1 := fun i hi => by rw [cesL_getD hi]; rfl
  obtain ⟨b0, o0, hi0, hc0, _⟩ := hrd.get (i := 0) (by omega)
  obtain ⟨b1, o1, hi1, hc1, _⟩ := hrd.get (i := 1) (by omega)
  obtain ⟨b2, o2, hi2, hc2, _⟩ := hrd.get (i := 2) (by omega)
  have hc0 := (hc0 _ hrd).1
  have hc1 := (hc1 _ hrd).1
  have hc2 := (hc2 _ hrd).1
  rw [hn _ (by omega), hcs] at hc0 hc1 hc2
  have hc0 : w9.cell? ⟨b0, o0, none⟩ = some (.int .u64 1) := hc0
  have hc1 : w9.cell? ⟨b1, o1, none⟩ = some (.int .u64 0) := hc1
  have hc2 : w9.cell? ⟨b2, o2, none⟩ = some (.int .u64 1) := hc2
  have hi0 : ∀ u, (Instr.indexAt 22 cv (.int .i64 0)).run Tryd.prog u = .ok (.pointer (some ⟨b0, o0, none⟩)) u := hi0
  have hi1 : ∀ u, (Instr.indexAt 22 cv (.int .i64 1)).run Tryd.prog u = .ok (.pointer (some ⟨b1, o1, none⟩)) u := hi1
  have hi2 : ∀ u, (Instr.indexAt 22 cv (.int .i64 2)).run Tryd.prog u = .ok (.pointer (some ⟨b2, o2, none⟩)) u := hi2
  clear hb hO hC hcs hre hn hrd HA HB8 HRa7 HRb HRa8 HRb8 hl3
  go_wp2
  go_ret
  exact ⟨rfl, HB9.out⟩

theorem sumT_drop (l : List Ce) (k : Nat) (h : k < l.length) : sumT (l.take (k + 1)) = sumT (l.take k) + (l.getD k default).2.length := by
  rw [take_succD h default, sumT_append, sumT, sumT]; omega

set_option maxHeartbeats 4000000 in
theorem law09_great (v : Value) (cs : List CellB) (w : World) (h : RdE w v cs) (hC : CES cs) :
    Calls Tryd.prog 12 #[v] w fun e w' => ∃ b, e = .returned (.bool b) ∧ Below w.heap.size w w' ∧ (b = false → cs.length + sumT (cesL cs) < 4611686018427387904 → cs.length + sumT (cesL cs) ≤ 5000) := by
  have hlen := h.len
  have hsm := h.small
  have HH := Lib.hid h
  have HCS := Lib.hid hC
  obtain ⟨n, hn⟩ : ∃ n, n = cs.length := ⟨_, rfl⟩
  rw [← hn] at hlen hsm
  have HN := Lib.hid hn
  clear h hn hC
  go_enter Tryd.func12, Tryd.ntmps12
  go_wp2
  go_loopw [3, 8] (fun a i wr => ∃ (k : Nat) (x : Int), k ≤ n ∧ i = .int .i64 k ∧ a = .int .i64 x ∧ Hid (Below w.heap.size w wr) ∧ Hid (cs.length + sumT (cesL cs) < 4611686018427387904 → x = ((k + sumT ((cesL cs).take k) : Nat) : Int))) (fun _ i _ => n - (intOf i).toNat)
  case atStart => exact ⟨0, 0, by omega, rfl, rfl, Lib.hid (Below.refl _ _), Lib.hid (fun _ => by simp [sumT])⟩
  case round =>
    obtain ⟨k, x, hk, rfl, rfl, HB, HX⟩ := hrel
    by_cases hlt : k < n
    · have hr := HH.out.later HB.out (Nat.le_refl _)
      have hl2 : k < cs.length := by rw [← HN.out]; exact hlt
      obtain ⟨b, o, hidx, hcell, hblk⟩ := hr.get hl2
      obtain ⟨hc0, hc1⟩ := hcell _ hr
      obtain ⟨hs1, hs2⟩ := HCS.out.get hl2
      have hsd := sumT_drop (cesL cs) k (by rw [cesL_length]; exact hl2)
      rw [cesL_getD hl2] at hsd
      have hle := sumT_take (cesL cs) (k + 1)
      rcases hcg : cs.getD k default with ⟨cn, s⟩
      rw [hcg] at hc0 hc1 hs1 hs2 hsd
      dsimp only at hc0 hc1 hs1 hs2
      have hS := rdS_of hs2
      have hlen2 := hS.len
      have hsz : (ceL (cn, s)).2.length = s.size := hS.size9.symm
      rw [hsz] at hsd
      rw [← hS.size9] at hlen2
      obtain ⟨z, hz⟩ : ∃ z : Nat, z = s.size := ⟨_, rfl⟩
      rw [← hz] at hlen2 hsd hs2
      have HX2 := Lib.hid (show cs.length + sumT (cesL cs) < 4611686018427387904 → wrap64 (x + (1 + (z : Int))) = ((k + 1 + sumT ((cesL cs).take (k + 1)) : Nat) : Int) from fun hh => by
        have e := HX.out hh
        have hn := HN.out
        rw [hsd]
        rw [hsd] at hle
        have : wrap64 (x + (1 + (z : Int))) = x + (1 + (z : Int)) := by unfold wrap64; omega
        rw [this, e]
        omega)
      have HB1 := Lib.hid (HB.out.alloc HB.out.size (.cells #[.int .u64 (cn : Int), .string s] 44))
      clear hr hcell hcg hl2 hblk hsd hle hsz hS hz HX
      go_wp2
      go_roundw
      case rel => exact ⟨k + 1, _, by omega, by go_num, rfl, HB1, HX2⟩
      case measure => simp [intOf]; omega
    · obtain rfl : k = n := by omega
      clear hlt
      have HX2 := Lib.hid (show decide (x > 5000) = false → cs.length + sumT (cesL cs) < 4611686018427387904 → cs.length + sumT (cesL cs) ≤ 5000 from fun h hh => by
        have e := HX.out hh
        have hk := HN.out
        rw [List.take_of_length_le (by rw [cesL_length, ← hk]; exact Nat.le_refl _)] at e
        have := of_decide_eq_false h
        omega)
      go_wp2
      go_ret
      exact ⟨_, rfl, HB.out, HX2.out⟩

/-- Cells that may be aren't great ones by going round. -/
theorem fit_total {kind : Int} {cs : List CellB} (h : wrE kind (cesL cs) = 0) (hC : CES cs) (hs : cs.length ≤ 140737488351232) : cs.length + sumT (cesL cs) < 4611686018427387904 := by
  have hf := (wrE_fit h (fun c hc => ce_cases hC hc)).2
  have : ∀ (l : List Ce), (∀ c ∈ l, Fit kind c) → sumT l ≤ 256 * l.length := by
    intro l
    induction l with
    | nil => intro _; simp [sumT]
    | cons c r ih =>
      intro hl
      have h1 := ih (fun x hx => hl x (by simp [hx]))
      have h2 := hl c (by simp)
      have h3 : c.2.length ≤ 256 := by
        by_cases ht : kind = 3 ∨ kind = 4
        · exact (h2.text ht).2.1
        · rw [(h2.num ht).1]; simp
      rw [sumT, List.length_cons]; omega
  have := this _ hf
  rw [cesL_length] at this
  omega
theorem great_small {kind : Int} {cs : List CellB} (h : wrE kind (cesL cs) = 0) (hC : CES cs) (hs : cs.length ≤ 140737488351232) (hg : cs.length + sumT (cesL cs) < 4611686018427387904 → cs.length + sumT (cesL cs) ≤ 5000) : 10 * cs.length + sumT (cesL cs) ≤ 1000000 := by
  have := hg (fit_total h hC hs)
  omega

end Go.Proofs.YtccclfpngdjmjaaDoor
