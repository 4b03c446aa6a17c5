/-
  Layer 6's law: its example, and whether cells are too many.
-/
import Derived.Test.YtkljkpffpdpphaaGreatDoorGRowL
import Derived.Test.YtkljkpffpdpphaaGreatDoorRowRead
import Derived.Test.YtkljkpffpdpphaaGreatDoorRowCmp
set_option linter.unusedVariables false
set_option linter.unusedSimpArgs false
set_option maxRecDepth 1000000
namespace Go.Proofs.YtkljkpffpdpphaaGreatDoor
open Go.RowKit Go.Shelf

def exCB : List ColB := [(⟨#[105, 100]⟩, 0), (⟨#[110, 97, 109, 101]⟩, 4)]
def exA : List CellB := [(1, ⟨#[]⟩), (0, ⟨#[97]⟩)]
def exB : List CellB := [(1, ⟨#[]⟩), (0, ⟨#[98]⟩)]
def exD : List CellB := [(2, ⟨#[]⟩), (0, ⟨#[]⟩)]
theorem exCB_ok : CS exCB := by
  intro c hc
  unfold exCB at hc
  simp at hc
  rcases hc with rfl | rfl
  · exact ⟨by show (2 : Nat) ≤ _; omega, by show (-9223372036854775808 : Int) ≤ 0; omega, by show (0 : Int) ≤ _; omega⟩
  · exact ⟨by show (4 : Nat) ≤ _; omega, by show (-9223372036854775808 : Int) ≤ 4; omega, by show (4 : Int) ≤ _; omega⟩
theorem exCB_fine : errS (colsL exCB) = 0 := by decide +kernel
theorem ce_small {c : CellB} (h1 : c.1 ≤ 100) (h2 : c.2.size ≤ 100) : ceS c := ⟨by omega, by omega⟩
theorem exA_ok : CES exA := by
  intro c hc; unfold exA at hc; simp at hc
  rcases hc with rfl | rfl <;> exact ce_small (by decide) (by decide)
theorem exB_ok : CES exB := by
  intro c hc; unfold exB at hc; simp at hc
  rcases hc with rfl | rfl <;> exact ce_small (by decide) (by decide)
theorem exD_ok : CES exD := by
  intro c hc; unfold exD at hc; simp at hc
  rcases hc with rfl | rfl <;> exact ce_small (by decide) (by decide)
theorem k01 : checkC 0 1 [] = 0 := by decide +kernel
theorem k02 : checkC 0 2 [] = 0 := by decide +kernel
theorem k4a : checkC 4 0 [97] = 0 := by decide +kernel
theorem k4b : checkC 4 0 [98] = 0 := by decide +kernel
theorem k4n : checkC 4 0 [] = 0 := by decide +kernel
theorem errRow_two {a b : CellB} (h1 : checkC 0 a.1 a.2.data.toList = 0) (h2 : checkC 4 b.1 b.2.data.toList = 0) : errRow exCB [a, b] = 0 := by
  unfold errRow
  rw [if_pos exCB_fine]
  unfold errC
  rw [if_pos (by rfl)]
  exact errP_of (by
    intro x hx
    unfold exCB at hx
    simp at hx
    rcases hx with rfl | rfl
    · exact h1
    · exact h2)
theorem exA_row : errRow exCB exA = 0 := errRow_two k01 k4a
theorem exB_row : errRow exCB exB = 0 := errRow_two k01 k4b
theorem exD_row : errRow exCB exD = 0 := errRow_two k02 k4n
theorem w1 : wrap64 ((1 : Nat) : Int) = 1 := by show wrap64 (1 : Int) = 1; exact w64_in (by omega)
theorem w2 : wrap64 ((2 : Nat) : Int) = 2 := by show wrap64 (2 : Int) = 2; exact w64_in (by omega)
theorem t01 : textK 0 1 [] = [49] := by
  unfold textK numL sdec
  rw [if_neg (by decide), if_pos rfl, w1, if_neg (by decide), show (1 : Int).toNat = 1 from rfl, dec_lo (by decide)]; rfl
theorem t02 : textK 0 2 [] = [50] := by
  unfold textK numL sdec
  rw [if_neg (by decide), if_pos rfl, w2, if_neg (by decide), show (2 : Int).toNat = 2 from rfl, dec_lo (by decide)]; rfl
theorem t4 (l : List UInt8) : textK 4 0 l = hexC l := by unfold textK; rw [if_pos (.inr rfl)]
theorem text_two (a b : CellB) : textR exCB [a, b] = textK 0 a.1 a.2.data.toList ++ [44] ++ textK 4 b.1 b.2.data.toList := by
  unfold textR exCB
  simp [Lib.join_cons, Lib.joinTail, txP]
theorem exA_text : textR exCB exA = [49, 44, 54, 49] := by
  unfold exA; rw [text_two]
  rw [show textK 0 ((1, (⟨#[]⟩ : ByteArray)) : CellB).1 ((1, (⟨#[]⟩ : ByteArray)) : CellB).2.data.toList = [49] from t01, show textK 4 ((0, (⟨#[97]⟩ : ByteArray)) : CellB).1 ((0, (⟨#[97]⟩ : ByteArray)) : CellB).2.data.toList = [54, 49] from by rw [show textK 4 ((0, (⟨#[97]⟩ : ByteArray)) : CellB).1 ((0, (⟨#[97]⟩ : ByteArray)) : CellB).2.data.toList = hexC [97] from t4 [97]]; decide]; rfl
theorem exB_text : textR exCB exB = [49, 44, 54, 50] := by
  unfold exB; rw [text_two]
  rw [show textK 0 ((1, (⟨#[]⟩ : ByteArray)) : CellB).1 ((1, (⟨#[]⟩ : ByteArray)) : CellB).2.data.toList = [49] from t01, show textK 4 ((0, (⟨#[98]⟩ : ByteArray)) : CellB).1 ((0, (⟨#[98]⟩ : ByteArray)) : CellB).2.data.toList = [54, 50] from by rw [show textK 4 ((0, (⟨#[98]⟩ : ByteArray)) : CellB).1 ((0, (⟨#[98]⟩ : ByteArray)) : CellB).2.data.toList = hexC [98] from t4 [98]]; decide]; rfl
theorem exD_text : textR exCB exD = [50, 44, 45] := by
  unfold exD; rw [text_two]
  rw [show textK 0 ((2, (⟨#[]⟩ : ByteArray)) : CellB).1 ((2, (⟨#[]⟩ : ByteArray)) : CellB).2.data.toList = [50] from t02, show textK 4 ((0, (⟨#[]⟩ : ByteArray)) : CellB).1 ((0, (⟨#[]⟩ : ByteArray)) : CellB).2.data.toList = [45] from by rw [show textK 4 ((0, (⟨#[]⟩ : ByteArray)) : CellB).1 ((0, (⟨#[]⟩ : ByteArray)) : CellB).2.data.toList = hexC [] from t4 []]; decide]; rfl
theorem cmp_AB : cmpR exCB exA exB = -1 := by
  unfold cmpR
  rw [if_neg (by rw [exA_row, exB_row]; simp)]
  have e1 : cmpX 0 (1, ⟨#[]⟩) (1, ⟨#[]⟩) = 0 := (cmpC_0 k01 k01).trans ((ordZ_zero _ _).2 rfl)
  have e2 : cmpX 4 (0, ⟨#[97]⟩) (0, ⟨#[98]⟩) = -1 := (cmpC_4 k4a k4b).trans (by decide)
  show cmpL exCB [((1, ⟨#[]⟩), (1, ⟨#[]⟩)), ((0, ⟨#[97]⟩), (0, ⟨#[98]⟩))] = -1
  unfold exCB
  rw [cmpL, cmpL]
  dsimp only
  rw [e1, e2]
  simp
theorem cmp_DB : cmpR exCB exD exB = 1 := by
  unfold cmpR
  rw [if_neg (by rw [exD_row, exB_row]; simp)]
  have e1 : cmpX 0 (2, ⟨#[]⟩) (1, ⟨#[]⟩) = 1 := (cmpC_0 k02 k01).trans (by rw [w1, w2]; decide)
  show cmpL exCB [((2, ⟨#[]⟩), (1, ⟨#[]⟩)), ((0, ⟨#[]⟩), (0, ⟨#[98]⟩))] = 1
  unfold exCB
  rw [cmpL]
  dsimp only
  rw [e1]
  simp

theorem law06_example (w : World) : Calls Tryz.prog 22 #[] w fun e w' => ∃ v, e = .returned v ∧ RdC w' v exCB ∧ Below w.heap.size w w' := by
  go_enter Tryz.func22, Tryz.ntmps22
  go_wp2
  go_ret
  refine ⟨.slice (some ⟨w.heap.size, 0, none⟩) 2 2, rfl, ?_, (Below.refl _ _).alloc (Nat.le_refl _) _⟩
  have hb := heap_alloc_new w (.cells #[.string ⟨#[105, 100]⟩, .int .i64 0, .string ⟨#[110, 97, 109, 101]⟩, .int .i64 4] 54)
  refine ⟨⟨_, _, rfl, by decide, (by intro h; cases h), fun _ => ⟨_, _, rfl⟩⟩, ?_, ?_, by decide⟩
  · intro i hi j u hu
    have hi2 : i < 2 := hi
    have hj : j < 2 := by
      have h9 := (List.getElem?_eq_some_iff.1 hu).1
      rw [getD_map colV exCB i hi2 default] at h9
      simpa [colV] using h9
    rw [adr_lit, cell_of_row _ _ _ _ _ _ hb]
    obtain rfl | rfl : i = 0 ∨ i = 1 := by omega
    all_goals
      obtain rfl | rfl : j = 0 ∨ j = 1 := by omega
      all_goals exact hu
  · intro x hx
    obtain ⟨c, _, rfl⟩ := List.mem_map.1 hx
    rfl

/-- The law's three rows, read. -/
theorem ex_Read (rs : List CellB) (l : List UInt8) (hE : CES rs) (h : errRow exCB rs = 0) (hl : textR exCB rs = l) (v : Value) (t : ByteArray) (w : World) (hv : RdC w v exCB) (ht : RdS t l) (hs : l.length ≤ 100) (hL : Lib4 w) (hX : Mx w) :
    Calls Tryz.prog 19 #[v, .string t] w fun e w' => ∃ tv, e = .returned (.tuple #[tv, .int .i64 0]) ∧ Below w.heap.size w w' ∧ RdE w' tv rs := by
  obtain ⟨b1, b2⟩ := row_back hE h
  rw [hl] at b1 b2
  refine (row_Read v t exCB l w hv ht exCB_ok (by omega) hL hX).mono ?_
  rintro e w' ⟨tv, rfl, hb, hr⟩
  rw [b1]
  rw [b2] at hr
  exact ⟨tv, rfl, hb, hr⟩

set_option maxHeartbeats 8000000 in
theorem law06_alive (w : World) (hL : Lib4 w) (hX : Mx w) :
    Calls Tryz.prog 8 #[] w fun e w' => e = .returned (.bool true) ∧ Below w.heap.size w w' := by
  have HL := Lib.hid hL
  have HX := Lib.hid hX
  have RA := Lib.hid (fun wz (hz : Below w.heap.size w wz) v (hv : RdC wz v exCB) => ex_Read exA _ exA_ok exA_row exA_text v ({ data := #[49, 44, 54, 49] } : ByteArray) wz hv ⟨rfl, by decide⟩ (by decide) (HL.out.later hz) (HX.out.later hz))
  have RB := Lib.hid (fun wz (hz : Below w.heap.size w wz) v (hv : RdC wz v exCB) => ex_Read exB _ exB_ok exB_row exB_text v ({ data := #[49, 44, 54, 50] } : ByteArray) wz hv ⟨rfl, by decide⟩ (by decide) (HL.out.later hz) (HX.out.later hz))
  have RD := Lib.hid (fun wz (hz : Below w.heap.size w wz) v (hv : RdC wz v exCB) => ex_Read exD _ exD_ok exD_row exD_text v ({ data := #[50, 44, 45] } : ByteArray) wz hv ⟨rfl, by decide⟩ (by decide) (HL.out.later hz) (HX.out.later hz))
  have C1 := Lib.hid (fun wz (hz : Below w.heap.size w wz) v a b (hv : RdC wz v exCB) (ha : RdE wz a exA) (hb : RdE wz b exB) => (show Calls Tryz.prog 12 #[v, a, b] wz fun e w' => e = .returned (.int .i64 (-1)) ∧ Below wz.heap.size wz w' from by
    rw [← cmp_AB]; exact row_Compare v a b exCB exA exB wz hv ha hb exCB_ok exA_ok exB_ok (HL.out.l3.tabs.later hz)))
  have C2 := Lib.hid (fun wz (hz : Below w.heap.size w wz) v a b (hv : RdC wz v exCB) (ha : RdE wz a exD) (hb : RdE wz b exB) => (show Calls Tryz.prog 12 #[v, a, b] wz fun e w' => e = .returned (.int .i64 1) ∧ Below wz.heap.size wz w' from by
    rw [← cmp_DB]; exact row_Compare v a b exCB exD exB wz hv ha hb exCB_ok exD_ok exB_ok (HL.out.l3.tabs.later hz)))
  clear hL hX
  go_enter Tryz.func8, Tryz.ntmps8
  go_wp2_with fail
  refine (law06_example _).mono ?_
  rintro e w1 ⟨x1, rfl, hv, hb⟩
  have HB1 := Lib.hid (hb)
  have HV1 := Lib.hid hv
  clear hb hv
  go_wp2_with fail
  refine (RA.out _ HB1.out x1 HV1.out).mono ?_
  rintro e w2 ⟨pa, rfl, hb, hv⟩
  have HB2 := Lib.hid (HB1.out.trans (hb.mono HB1.out.size))
  have PA2 := Lib.hid hv
  clear hb hv HV1 
  go_wp2_with fail
  refine (law06_example _).mono ?_
  rintro e w3 ⟨x3, rfl, hv, hb⟩
  have HB3 := Lib.hid (HB2.out.trans (hb.mono HB2.out.size))
  have HV3 := Lib.hid hv
  have PA3 := Lib.hid (PA2.out.later hb (Nat.le_refl _))
  clear PA2
  clear hb hv
  go_wp2_with fail
  refine (RB.out _ HB3.out x3 HV3.out).mono ?_
  rintro e w4 ⟨pb, rfl, hb, hv⟩
  have HB4 := Lib.hid (HB3.out.trans (hb.mono HB3.out.size))
  have PB4 := Lib.hid hv
  have PA4 := Lib.hid (PA3.out.later hb (Nat.le_refl _))
  clear hb hv HV3 PA3
  go_wp2_with fail
  refine (law06_example _).mono ?_
  rintro e w5 ⟨x5, rfl, hv, hb⟩
  have HB5 := Lib.hid (HB4.out.trans (hb.mono HB4.out.size))
  have HV5 := Lib.hid hv
  have PA5 := Lib.hid (PA4.out.later hb (Nat.le_refl _))
  have PB5 := Lib.hid (PB4.out.later hb (Nat.le_refl _))
  clear PA4 PB4
  clear hb hv
  go_wp2_with fail
  refine (RD.out _ HB5.out x5 HV5.out).mono ?_
  rintro e w6 ⟨pd, rfl, hb, hv⟩
  have HB6 := Lib.hid (HB5.out.trans (hb.mono HB5.out.size))
  have PD6 := Lib.hid hv
  have PA6 := Lib.hid (PA5.out.later hb (Nat.le_refl _))
  have PB6 := Lib.hid (PB5.out.later hb (Nat.le_refl _))
  clear hb hv HV5 PA5 PB5
  go_wp2_with fail
  refine (law06_example _).mono ?_
  rintro e w7 ⟨x7, rfl, hv, hb⟩
  have HB7 := Lib.hid (HB6.out.trans (hb.mono HB6.out.size))
  have HV7 := Lib.hid hv
  have PA7 := Lib.hid (PA6.out.later hb (Nat.le_refl _))
  have PB7 := Lib.hid (PB6.out.later hb (Nat.le_refl _))
  have PD7 := Lib.hid (PD6.out.later hb (Nat.le_refl _))
  clear PA6 PB6 PD6
  clear hb hv
  go_wp2_with fail
  refine (C1.out _ HB7.out x7 pa pb HV7.out PA7.out PB7.out).mono ?_
  rintro e w8 ⟨rfl, hb⟩
  have HB8 := Lib.hid (HB7.out.trans (hb.mono HB7.out.size))
  have PB8 := Lib.hid (PB7.out.later hb (Nat.le_refl _))
  have PD8 := Lib.hid (PD7.out.later hb (Nat.le_refl _))
  clear hb PA7 PB7 PD7 HV7
  go_wp2_with fail
  refine (law06_example _).mono ?_
  rintro e w9 ⟨x9, rfl, hv, hb⟩
  have HB9 := Lib.hid (HB8.out.trans (hb.mono HB8.out.size))
  have HV9 := Lib.hid hv
  have PB9 := Lib.hid (PB8.out.later hb (Nat.le_refl _))
  have PD9 := Lib.hid (PD8.out.later hb (Nat.le_refl _))
  clear PB8 PD8
  clear hb hv
  go_wp2_with fail
  refine (C2.out _ HB9.out x9 pd pb HV9.out PD9.out PB9.out).mono ?_
  rintro e w10 ⟨rfl, hb⟩
  have HB10 := Lib.hid (HB9.out.trans (hb.mono HB9.out.size))
  clear hb PB9 PD9 HV9
  go_wp2
  go_ret
  exact ⟨rfl, HB10.out⟩
end Go.Proofs.YtkljkpffpdpphaaGreatDoor


/-
  Layer 6's law: whether cells are too many.
-/
namespace Go.Proofs.YtkljkpffpdpphaaGreatDoor
open Go.RowKit Go.Shelf

def rowsE : Elt := ⟨49, 23, 1, 24, .slice none 0 0⟩
theorem rowsOk : rowsE.Ok := ⟨Tryz.underlying49, by kernel_rfl, by kernel_rfl, rfl, by decide⟩
def RdRows (w : World) (v : Value) (vals : List Value) : Prop := RdG rowsE w v (vals.map fun x => [x])

theorem rdRows_block {w : World} {b : Nat} {vals : List Value} {z : Nat × Nat} (h : w.heap[b]? = some (.cells vals.toArray 23 z)) (hs : vals.length ≤ 100) : RdRows w (.slice (some ⟨b, 0, none⟩) vals.length vals.length) vals := by
  refine ⟨⟨_, _, by rw [List.length_map], by rw [List.length_map]; omega, (by intro h; cases h), fun _ => ⟨_, _, rfl⟩⟩, fun i hi j u hu => ?_, fun x hx => ?_, by rw [List.length_map]; omega⟩
  · rw [List.length_map] at hi
    rw [getD_map (fun x => [x]) vals i hi undef] at hu
    obtain rfl : j = 0 := by
      have := (List.getElem?_eq_some_iff.1 hu).1
      simpa using this
    have hu : vals.getD i undef = u := by simpa using hu
    rw [adr_lit, cell_of_row _ _ _ _ _ z h, List.getElem?_toArray]
    show vals[0 + (i * 1 + 0)]? = some u
    rw [show 0 + (i * 1 + 0) = i from by omega, List.getElem?_eq_getElem hi, ← hu]
    simp [List.getD, hi]
  · obtain ⟨c, _, rfl⟩ := List.mem_map.1 hx
    rfl

set_option maxHeartbeats 8000000 in
theorem law06_great (v : Value) (vals : List Value) (rss : List (List CellB)) (w : World) (h : RdRows w v vals) (hr : ∀ i, i < vals.length → ∀ wz, Below w.heap.size w wz → RdE wz (vals.getD i undef) (rss.getD i [])) :
    Calls Tryz.prog 9 #[v] w fun e w' => ∃ b, e = .returned (.bool b) ∧ Below w.heap.size w w' := by
  have hlen := RdG.len h rowsOk
  rw [List.length_map] at hlen
  have hsm := RdG.small h
  rw [List.length_map] at hsm
  have HH := Lib.hid h
  have HR := Lib.hid hr
  obtain ⟨n, hn⟩ : ∃ n, n = vals.length := ⟨_, rfl⟩
  rw [← hn] at hlen hsm
  have hlen : ∀ u, (Builtin.len_ #[49] 3 #[v]).run Tryz.prog u = .ok (.int .i64 (n : Int)) u := hlen
  have HN := Lib.hid hn
  clear h hn hr
  go_enter Tryz.func9, Tryz.ntmps9
  go_wp2
  go_loopw [3, 10] (fun a i wr => ∃ (k : Nat) (x : Int), k ≤ n ∧ i = .int .i64 k ∧ a = .int .i64 x ∧ Hid (Below w.heap.size w wr)) (fun _ i _ => n - (intOf i).toNat)
  case atStart => exact ⟨0, 0, by omega, rfl, rfl, Lib.hid (Below.refl _ _)⟩
  case round =>
    obtain ⟨k, x, hk, rfl, rfl, HB⟩ := hrel
    by_cases hlt : k < n
    · have hr := RdG.later HH.out rowsOk HB.out (Nat.le_refl _)
      have hl2 : k < (vals.map fun x => [x]).length := by rw [List.length_map, ← HN.out]; exact hlt
      have hidx := RdG.idx hr rowsOk k hl2
      obtain ⟨b, o, ha, hc⟩ := RdG.at hr hl2
      rw [ha] at hidx
      rw [getD_map (fun x => [x]) vals k (by rw [← HN.out]; exact hlt) undef] at hc
      have hc0 := hc 0 _ rfl
      rw [Nat.add_zero] at hc0
      have hre := HR.out k (by rw [← HN.out]; exact hlt)
      obtain ⟨rv, hrv⟩ : ∃ rv, rv = vals.getD k undef := ⟨_, rfl⟩
      rw [← hrv] at hc0 hre
      obtain ⟨rs, hrs⟩ : ∃ rs, rs = rss.getD k [] := ⟨_, rfl⟩
      rw [← hrs] at hre
      have HRE := Lib.hid hre
      have hl5 := (HRE.out wr HB.out).len
      have hsm5 := (HRE.out wr HB.out).small
      obtain ⟨m, hm⟩ : ∃ m, m = rs.length := ⟨_, rfl⟩
      rw [← hm] at hl5 hsm5
      have HM := Lib.hid hm
      have hidx : ∀ u, (Instr.indexAt 49 v (.int .i64 (k : Int))).run Tryz.prog u = .ok (.pointer (some ⟨b, o, none⟩)) u := hidx
      clear hr hl2 ha hc hre hrv hrs hm
      go_wp2
      go_loopw [3, 16] (fun a i wr => ∃ (j : Nat) (y : Int), j ≤ m ∧ i = .int .i64 j ∧ a = .int .i64 y ∧ Hid (Below w.heap.size w wr)) (fun _ i _ => m - (intOf i).toNat)
      case atStart => exact ⟨0, _, by omega, rfl, rfl, HB⟩
      case round =>
        clear HB hc0 hidx
        obtain ⟨j, y, hj, rfl, rfl, HB⟩ := hrel
        by_cases hjl : j < m
        · have hrr := HRE.out wr HB.out
          have hj2 : j < rs.length := by rw [← HM.out]; exact hjl
          obtain ⟨b9, o9, hidx, hcell, _⟩ := hrr.get hj2
          obtain ⟨hc0, hc1⟩ := hcell _ hrr
          rcases hcg : rs.getD j default with ⟨cn, ct⟩
          rw [hcg] at hc0 hc1
          dsimp only at hc0 hc1
          have HB1 := Lib.hid (HB.out.alloc HB.out.size (.cells #[.int .u64 (cn : Int), .string ct] 45))
          clear hrr hcell hcg hj2
          go_wp2
          go_roundw
          case rel => exact ⟨j + 1, _, by omega, by go_num, rfl, HB1⟩
          case measure => simp [intOf]; omega
        · obtain rfl : j = m := by omega
          clear hjl
          go_wp2
          go_roundw
          case rel => exact ⟨k + 1, _, by omega, by go_num, rfl, HB⟩
          case measure => simp [intOf]; omega
    · obtain rfl : k = n := by omega
      clear hlt
      go_wp2
      go_ret
      exact ⟨_, rfl, HB.out⟩

theorem great_two (v2 v3 : Value) (a b : List CellB) (w : World) (h2 : ∀ wz, Below w.heap.size w wz → RdE wz v2 a) (h3 : ∀ wz, Below w.heap.size w wz → RdE wz v3 b) :
    Calls Tryz.prog 9 #[.slice (some ⟨w.heap.size, 0, none⟩) 2 2] (w.alloc (.cells #[v2, v3] 23)) fun e w' => ∃ q, e = .returned (.bool q) ∧ Below w.heap.size w w' := by
  obtain ⟨N0, N1, N2⟩ := new1 w (.cells #[v2, v3] 23)
  refine (law06_great _ [v2, v3] [a, b] _ (rdRows_block (vals := [v2, v3]) N1 (by simp)) ?_).mono ?_
  · intro i hi wz hz
    have hi : i < 2 := hi
    have hz' := N2.trans (hz.mono N2.size)
    obtain rfl | rfl : i = 0 ∨ i = 1 := by omega
    · exact h2 wz hz'
    · exact h3 wz hz'
  · rintro e w' ⟨q, rfl, hb⟩
    exact ⟨q, rfl, N2.trans (hb.mono N2.size)⟩
theorem great_one (v2 : Value) (a : List CellB) (w : World) (h2 : ∀ wz, Below w.heap.size w wz → RdE wz v2 a) :
    Calls Tryz.prog 9 #[.slice (some ⟨w.heap.size, 0, none⟩) 1 1] (w.alloc (.cells #[v2] 23)) fun e w' => ∃ q, e = .returned (.bool q) ∧ Below w.heap.size w w' := by
  obtain ⟨N0, N1, N2⟩ := new1 w (.cells #[v2] 23)
  refine (law06_great _ [v2] [a] _ (rdRows_block (vals := [v2]) N1 (by simp)) ?_).mono ?_
  · intro i hi wz hz
    have hi : i < 1 := hi
    have hz' := N2.trans (hz.mono N2.size)
    obtain rfl : i = 0 := by omega
    exact h2 wz hz'
  · rintro e w' ⟨q, rfl, hb⟩
    exact ⟨q, rfl, N2.trans (hb.mono N2.size)⟩

end Go.Proofs.YtkljkpffpdpphaaGreatDoor

