/-
  Package schema: the names that were, a kind, Check, Same.
-/
import Derived.Test.YteiphdcgffapbaaGreatDoorGBaseB
import Derived.Test.YteiphdcgffapbaaGreatDoorGWire
import Derived.Test.YteiphdcgffapbaaGreatDoorGCell
import Derived.Test.YteiphdcgffapbaaGreatDoorShelf5
import Derived.Shelf.Strings.SlTrimAscii
import Derived.Deep.QuietTactic
import Derived.BigQuiet
import Derived.Test.YteiphdcgffapbaaGreatDoorGBaseA
set_option linter.unusedVariables false
set_option linter.unusedSimpArgs false
set_option maxRecDepth 1000000
namespace Go.Proofs.YteiphdcgffapbaaGreatDoor
open Go.RowKit Go.Shelf

/-- The bytes that names are made of. -/
def lettersL : List UInt8 := [97, 98, 99, 100, 101, 102, 103, 104, 105, 106, 107, 108, 109, 110, 111, 112, 113, 114, 115, 116, 117, 118, 119, 120, 121, 122, 48, 49, 50, 51, 52, 53, 54, 55, 56, 57, 95]
theorem letters_mem (c : UInt8) : lettersL.contains c = letterB c.toNat := by
  have : ∀ n : Fin 256, lettersL.contains (UInt8.ofNat n.val) = letterB n.val := by decide +kernel
  have h := this ⟨c.toNat, c.toNat_lt⟩
  rwa [UInt8.ofNat_toNat] at h
theorem trim_letters (l : List UInt8) : (Lib.trimLeftS l lettersL).isEmpty = l.all (fun c => letterB c.toNat) := by
  unfold Lib.trimLeftS
  induction l with
  | nil => rfl
  | cons a r ih =>
    rw [List.dropWhile_cons, List.all_cons, ← letters_mem a]
    by_cases ha : lettersL.contains a = true
    · rw [if_pos ha, ih, ha]; rfl
    · rw [if_neg ha]
      simp only [Bool.not_eq_true] at ha
      rw [ha]; rfl

theorem lib_Letters (s : ByteArray) (l : List UInt8) (w : World) (h : RdS s l) :
    Calls Tryz.prog 103 #[.string s, .string ({ data := #[97, 98, 99, 100, 101, 102, 103, 104, 105, 106, 107, 108, 109, 110, 111, 112, 113, 114, 115, 116, 117, 118, 119, 120, 121, 122, 48, 49, 50, 51, 52, 53, 54, 55, 56, 57, 95] } : ByteArray)] w fun e w' => e = .returned (.string ⟨(Lib.trimLeftS l lettersL).toArray⟩) ∧ Below w.heap.size w w' := by
  have c : Calls Tryz.prog 103 #[.string s, .string ({ data := #[97, 98, 99, 100, 101, 102, 103, 104, 105, 106, 107, 108, 109, 110, 111, 112, 113, 114, 115, 116, 117, 118, 119, 120, 121, 122, 48, 49, 50, 51, 52, 53, 54, 55, 56, 57, 95] } : ByteArray)] w _ := Any.strings_TrimLeft_laid Tryz.laysTrim (by kernel_rfl) s _ w (by decide) (ascii_of_all (by decide))
  rw [show s.data.toList = l from by rw [h.eq]] at c
  exact c

/-- The closure over the names that were: its variable in block c, the map in block m. -/
structure Were (w : World) (c m : Nat) (ah : List (List UInt8)) : Prop where
  var : w.heap[c]? = some (.cells #[.map (some m)] 157 (0, 0))
  set : SetOf w m ah
  ne : c ≠ m

theorem Were.later {w w' : World} {c m : Nat} {ah : List (List UInt8)} (h : Were w c m ah) {B : Nat} (hb : Below B w w') (hB : w.heap.size ≤ B) : Were w' c m ah :=
  ⟨(hb.block c (Nat.lt_of_lt_of_le (Array.getElem?_eq_some_iff.1 h.var).1 hB)).trans h.var, h.set.later hb hB, h.ne⟩
theorem Were.kept {w w' : World} {c m g : Nat} {ah : List (List UInt8)} (h : Were w c m ah) (hg : w.grownBy w' (some g)) (h1 : c ≠ g) (h2 : m ≠ g) : Were w' c m ah :=
  ⟨(hg.block c (Array.getElem?_eq_some_iff.1 h.var).1 (by simpa using h1)).trans h.var, h.set.kept hg (by simpa using h2), h.ne⟩
theorem Were.alloc {w : World} {c m : Nat} {ah : List (List UInt8)} (h : Were w c m ah) (o : Obj) : Were (w.alloc o) c m ah := h.later ((Below.refl w.heap.size w).alloc (Nat.le_refl _) o) (Nat.le_refl _)
theorem Were.lt {w : World} {c m : Nat} {ah : List (List UInt8)} (h : Were w c m ah) : c < w.heap.size ∧ m < w.heap.size := ⟨(Array.getElem?_eq_some_iff.1 h.var).1, h.set.lt⟩

theorem schema_namer (w : World) :
    Calls Tryz.prog 67 #[] w fun e w' => e = .returned (.func (.func 102) #[] #[.pointer (some ⟨w.heap.size + 1, 0, none⟩)]) ∧ Were w' (w.heap.size + 1) w.heap.size [] ∧ Below w.heap.size w w' := by
  have hmm := @run_makeMap Tryz.prog
  have hmf : ∀ (fn : Fn) (first cap : Array Value) (w : World), (Instr.makeFunc fn first cap).run Tryz.prog w = .ok (.func fn first cap) w := fun _ _ _ _ => rfl
  have hs := SetOf.made w
  obtain ⟨n0, n1, n2, n3⟩ := new2 w (.map #[] 0) (.cells #[.map (some w.heap.size)] 157)
  have HS := Lib.hid (hs.alloc (.cells #[.map (some w.heap.size)] 157))
  have H2 := Lib.hid n2
  have H3 := Lib.hid n3
  clear hs n0 n1 n2 n3
  go_enter Tryz.func67, Tryz.ntmps67
  go_wp2
  go_ret
  exact ⟨rfl, ⟨H2.out, HS.out, by omega⟩, H3.out⟩

theorem fine_eq (l : List UInt8) (ah : List (List UInt8)) : fine l ah = (!l.isEmpty && ((Lib.trimLeftS l lettersL).isEmpty && !ah.contains l)) := by
  unfold fine; rw [trim_letters]

theorem grown_after {w w1 w2 : World} {m : Nat} (hb : Below w.heap.size w w1) (hg : w1.grownBy w2 (some m)) : w.grownBy w2 (some m) :=
  ⟨hg.os.trans hb.os, hg.tape.trans hb.tape, hg.output.trans hb.output, Nat.le_trans hb.size hg.size, fun j hj hne => (hg.block j (Nat.lt_of_lt_of_le hj hb.size) hne).trans (hb.block j hj)⟩
theorem Were.put {w w' : World} {c m : Nat} {ah ah' : List (List UInt8)} (h : Were w c m ah) (hs : SetOf w' m ah') (hg : w.grownBy w' (some m)) : Were w' c m ah' :=
  ⟨(hg.block c (Array.getElem?_eq_some_iff.1 h.var).1 (by simpa using h.ne)).trans h.var, hs, h.ne⟩

set_option maxHeartbeats 2000000 in
theorem schema_fits (s : ByteArray) (l : List UInt8) (c m : Nat) (ah : List (List UInt8)) (w : World) (h : RdS s l) (hW : Were w c m ah) (hn : ah.length < 1000) :
    Calls Tryz.prog 102 #[.string s, .pointer (some ⟨c, 0, none⟩)] w fun e w' => e = .returned (.bool (fine l ah)) ∧ Were w' c m (ah ++ [l]) ∧ w.grownBy w' (some m) := by
  have hd : s.data.toList = l := by rw [h.eq]
  have hsm := h.small
  have hsz : s.size ≤ maxLen := by rw [h.eq]; simp [ByteArray.size]; unfold maxLen; omega
  have hemp := h.toList
  have HF := Lib.hid (fine_eq l ah)
  have HD := Lib.hid hd
  have HW := Lib.hid hW
  by_cases hl : l = []
  · have q1 : (s.toList != []) = false := by rw [hemp, hl]; rfl
    have q2 : s.toList.isEmpty = true := by rw [hemp, hl]; rfl
    have c0 := cell_of_one hW.var
    have HF2 := Lib.hid (show fine l ah = false by rw [HF.out, hl]; rfl)
    clear HF hl hemp hd hW
    go_enter Tryz.func102, Tryz.ntmps102
    go_wp2_with (at_mapUpdate; refine wpl_setName m ah HW.out.set ?_ s hsz ?_ ?_ ?_ ?_)
    · rfl
    · rfl
    · rfl
    · unfold maxLen; omega
    intro w1 hs1 hg1
    rw [HD.out] at hs1
    have HS1 := Lib.hid hs1
    have HG1 := Lib.hid hg1
    clear hs1 hg1 c0
    go_wp2
    go_ret
    exact ⟨by rw [HF2.out]; rfl, HW.out.put HS1.out HG1.out, HG1.out⟩
  · have q1 : (s.toList != []) = true := by rw [hemp]; simpa using hl
    have q2 : s.toList.isEmpty = false := by rw [hemp]; cases l <;> simp_all
    have hle : l.isEmpty = false := by cases l <;> simp_all
    have hT := lib_Letters s l w h
    obtain ⟨T, hT9⟩ : ∃ T : ByteArray, T = ⟨(Lib.trimLeftS l lettersL).toArray⟩ := ⟨_, rfl⟩
    have hTl : T.toList = Lib.trimLeftS l lettersL := by rw [hT9, Lib.toList_data]
    rw [← hT9] at hT
    by_cases htr : (Lib.trimLeftS l lettersL).isEmpty = true
    · have t1 : T.toList.isEmpty = true := by rw [hTl]; exact htr
      have t2 : (T.toList == []) = true := by rw [hTl]; simpa using htr
      have HF2 := Lib.hid (show fine l ah = !ah.contains l by rw [HF.out, hle, htr]; rfl)
      clear HF hl hemp hd hW hTl hT9 hle htr
      go_enter Tryz.func102, Tryz.ntmps102
      go_wp2_with fail
      refine hT.mono ?_
      rintro e w1 ⟨rfl, hb⟩
      have HB := Lib.hid hb
      have hW1 := HW.out.later hb (Nat.le_refl _)
      have c0 := cell_of_one hW1.var
      have hlk := hW1.set.look s hsz
      rw [HD.out] at hlk
      obtain ⟨bb, hbb⟩ : ∃ bb, bb = ah.contains l := ⟨_, rfl⟩
      rw [← hbb] at hlk
      have HBB := Lib.hid hbb
      have HW1 := Lib.hid hW1
      clear hb hW1 hbb hT
      go_wp2_with (at_mapUpdate; refine wpl_setName m ah HW1.out.set ?_ s hsz ?_ ?_ ?_ ?_)
      · rfl
      · rfl
      · rfl
      · unfold maxLen; omega
      intro w2 hs1 hg1
      rw [HD.out] at hs1
      have HS1 := Lib.hid hs1
      have HG1 := Lib.hid hg1
      clear hs1 hg1 c0 hlk
      go_wp2
      go_ret
      exact ⟨by rw [HF2.out, ← HBB.out]; rfl, HW1.out.put HS1.out HG1.out, grown_after HB.out HG1.out⟩
    · have t1 : T.toList.isEmpty = false := by rw [hTl]; simpa using htr
      have t2 : (T.toList == []) = false := by rw [hTl]; simpa using htr
      have HF2 := Lib.hid (show fine l ah = false by rw [HF.out, hle, show (Lib.trimLeftS l lettersL).isEmpty = false by simpa using htr]; rfl)
      clear HF hl hemp hd hW hTl hT9 hle htr
      go_enter Tryz.func102, Tryz.ntmps102
      go_wp2_with fail
      refine hT.mono ?_
      rintro e w1 ⟨rfl, hb⟩
      have HB := Lib.hid hb
      have hW1 := HW.out.later hb (Nat.le_refl _)
      have c0 := cell_of_one hW1.var
      have HW1 := Lib.hid hW1
      clear hb hW1 hT
      go_wp2_with (at_mapUpdate; refine wpl_setName m ah HW1.out.set ?_ s hsz ?_ ?_ ?_ ?_)
      · rfl
      · rfl
      · rfl
      · unfold maxLen; omega
      intro w2 hs1 hg1
      rw [HD.out] at hs1
      have HS1 := Lib.hid hs1
      have HG1 := Lib.hid hg1
      clear hs1 hg1 c0
      go_wp2
      go_ret
      exact ⟨by rw [HF2.out]; rfl, HW1.out.put HS1.out HG1.out, grown_after HB.out HG1.out⟩

/-- A kind that there is. -/
def kindOk (k : Int) : Bool := decide (0 ≤ k ∧ k ≤ 5)
theorem check_kind5 (k : Int) : (((checkC k 0 [] : Nat) : Int) == 0) = kindOk k := by
  unfold kindOk
  by_cases h : 0 ≤ k ∧ k ≤ 5
  · rw [decide_eq_true h]
    have : checkC k 0 [] = 0 := by
      unfold checkC
      rw [if_neg (by omega), if_neg ?_, if_neg (by simp)]
      rintro (⟨_, b⟩ | ⟨_, b⟩ | ⟨_, b⟩ | ⟨_, b⟩)
      · exact b rfl
      · exact b rfl
      · omega
      · exact absurd b (by decide +kernel)
    rw [this]; rfl
  · rw [decide_eq_false h]
    have : checkC k 0 [] = 10 := by unfold checkC; rw [if_pos (by omega)]
    rw [this]; rfl

theorem schema_isKind (k : Int) (w : World) (hT : Tabs w) :
    Calls Tryz.prog 68 #[.int .i64 k] w fun e w' => e = .returned (.bool (kindOk k)) ∧ Below w.heap.size w w' := by
  have hc := check_kind5 k
  obtain ⟨n, hn⟩ : ∃ n, n = checkC k 0 [] := ⟨_, rfl⟩
  rw [← hn] at hc
  have HC := Lib.hid hc
  have HN := Lib.hid hn
  have hcv : cellV 0 ⟨#[]⟩ = .agg #[.int .u64 0, .string ⟨#[]⟩] := rfl
  have hk := cell_Check k 0 ⟨#[]⟩ [] w ⟨rfl, by simp⟩ hT
  rw [hcv, ← hn] at hk
  clear hc hn hcv
  go_enter Tryz.func68, Tryz.ntmps68
  go_wp2_with fail
  refine hk.mono ?_
  rintro e w1 ⟨rfl, hb⟩
  have HB := Lib.hid hb
  clear hb hk
  go_wp2
  go_ret
  exact ⟨by rw [← HC.out]; rfl, HB.out⟩

end Go.Proofs.YteiphdcgffapbaaGreatDoor


/-
  Package schema: Check.
-/
namespace Go.Proofs.YteiphdcgffapbaaGreatDoor
open Go.RowKit Go.Shelf

/-- A column as its name's bytes and its kind. -/
def colL (c : ColB) : Col := (c.1.data.toList, c.2)
def colsL (cs : List ColB) : List Col := cs.map colL
theorem colsL_length (cs : List ColB) : (colsL cs).length = cs.length := by simp [colsL]
theorem colsL_getD {cs : List ColB} {k : Nat} (h : k < cs.length) : (colsL cs).getD k default = colL (cs.getD k default) := by
  simp [colsL, List.getD, h]
theorem CS.get {cs : List ColB} (h : CS cs) {k : Nat} (hk : k < cs.length) : (cs.getD k default).1.size ≤ 140737488351232 ∧ -9223372036854775808 ≤ (cs.getD k default).2 ∧ (cs.getD k default).2 ≤ 9223372036854775807 := by
  have e : cs.getD k default = cs[k] := by simp [List.getD, hk]
  rw [e]; exact h _ (List.getElem_mem _)

set_option maxHeartbeats 4000000 in
theorem schema_Check (v : Value) (cs : List ColB) (w : World) (h : RdC w v cs) (hC : CS cs) (hT : Tabs w) :
    Calls Tryz.prog 30 #[v] w fun e w' => e = .returned (.int .i64 (errS (colsL cs) : Nat)) ∧ Below w.heap.size w w' := by
  have hlen := h.len
  have hsm := h.small
  by_cases h0 : cs.length = 0
  · have HE := Lib.hid (show errS (colsL cs) = 4 by unfold errS; rw [colsL_length, if_pos h0])
    have q : ((cs.length : Int) == 0) = true := by rw [h0]; rfl
    clear h0 h
    go_enter Tryz.func30, Tryz.ntmps30
    go_wp2
    go_ret
    exact ⟨by rw [HE.out]; rfl, Below.refl _ _⟩
  have q : ((cs.length : Int) == 0) = false := by rw [beq_eq_false_iff_ne]; omega
  by_cases h8 : 8 < cs.length
  · have HE := Lib.hid (show errS (colsL cs) = 13 by unfold errS; rw [colsL_length, if_neg h0, if_pos h8])
    have q2 : decide ((cs.length : Int) > 8) = true := decide_eq_true (by omega)
    clear h0 h
    go_enter Tryz.func30, Tryz.ntmps30
    go_wp2
    go_ret
    exact ⟨by rw [HE.out]; rfl, Below.refl _ _⟩
  have q2 : decide ((cs.length : Int) > 8) = false := decide_eq_false (by omega)
  have HE := Lib.hid (show errS (colsL cs) = errFrom [] (colsL cs) by unfold errS; rw [colsL_length, if_neg h0, if_neg h8])
  clear h0
  have HH := Lib.hid h
  clear h
  go_enter Tryz.func30, Tryz.ntmps30
  go_wp2_with fail
  refine (schema_namer w).mono ?_
  rintro e w1 ⟨rfl, hW, hb⟩
  have HW := Lib.hid hW
  have HB := Lib.hid hb
  clear hW hb
  go_wp2
  go_loopw [15] (fun i wr => ∃ k : Nat, k ≤ cs.length ∧ i = .int .i64 k ∧ Hid (Below w.heap.size w wr) ∧ Hid (Were wr (w.heap.size + 1) w.heap.size (names ((colsL cs).take k))) ∧ Hid (errFrom [] (colsL cs) = errFrom (names ((colsL cs).take k)) ((colsL cs).drop k))) (fun i _ => cs.length - (intOf i).toNat)
  case atStart => exact ⟨0, by omega, rfl, HB, HW, Lib.hid rfl⟩
  case round =>
    clear HW HB
    obtain ⟨k, hk, rfl, HB, HW, HN⟩ := hrel
    by_cases hlt : k < cs.length
    · have hr := HH.out.later HB.out (Nat.le_refl _)
      obtain ⟨b, o, hidx, hcell, hblk⟩ := hr.get hlt
      obtain ⟨hc0, hc1⟩ := hcell _ hr
      obtain ⟨hs1, hk1, hk2⟩ := hC.get hlt
      have hst := errFrom_step (cs := colsL cs) (k := k) (by rw [colsL_length]; exact hlt)
      rw [colsL_getD hlt] at hst
      rcases hcg : cs.getD k default with ⟨s, kd⟩
      rw [hcg] at hc0 hc1 hs1 hk1 hk2 hst
      dsimp only at hc0 hc1 hs1 hk1 hk2
      have hS := rdS_of hs1
      obtain ⟨l, hl⟩ : ∃ l, l = s.data.toList := ⟨_, rfl⟩
      rw [← hl] at hS
      have hst : errFrom (names ((colsL cs).take k)) ((colsL cs).drop k) = if colErr (names ((colsL cs).take k)) (l, kd) ≠ 0 then colErr (names ((colsL cs).take k)) (l, kd) else errFrom (names ((colsL cs).take (k + 1))) ((colsL cs).drop (k + 1)) := by
        rw [hst]; unfold colL; rw [← hl]
      have HST := Lib.hid hst
      have HG := Lib.hid hcg
      have hsl := hS.len
      have hidx' := hidx
      have HL := Lib.hid hl
      have HS := Lib.hid hS
      clear hst hcg hcell hr hl hS hs1
      by_cases h32 : 32 < l.length
      · have q3 : decide ((l.length : Int) > 32) = true := decide_eq_true (by omega)
        have HF := Lib.hid (show errS (colsL cs) = 7 by
          rw [HE.out, HN.out, HST.out]
          have e : colErr (names ((colsL cs).take k)) (l, kd) = 7 := by unfold colErr; exact if_pos h32
          rw [e]; rfl)
        go_wp2
        go_ret
        exact ⟨by rw [HF.out]; rfl, HB.out.alloc HB.out.size _⟩
      · have q3 : decide ((l.length : Int) > 32) = false := decide_eq_false (by omega)
        have HB1 := Lib.hid (HB.out.alloc HB.out.size (.cells #[.string s, .int .i64 kd] 57))
        obtain ⟨N0, N1, N2⟩ := new1 wr (.cells #[.string s, .int .i64 kd] 57)
        have HW1 := Lib.hid (HW.out.alloc (.cells #[.string s, .int .i64 kd] 57))
        have Q1 := Lib.hid N1
        have hwr := HB.out.size
        have hwl := HW.out.lt
        clear N0 N1 N2
        go_wp2_with fail
        refine (schema_fits s l (w.heap.size + 1) w.heap.size _ _ HS.out HW1.out (by simp [names]; omega)).mono ?_
        rintro e w2 ⟨rfl, hW2, hg⟩
        have HW2 := Lib.hid hW2
        have q2 := (hg.block wr.heap.size (by simp) (by simp; omega)).trans Q1.out
        have c0 := new_cellC (i := 0) q2 rfl
        have c1 := new_cellC (i := 1) q2 rfl
        have HB2 := Lib.hid (HB1.out.grown hg (by simp; omega) (fun j hj => by cases hj; exact Nat.le_refl _))
        have hn2 : names ((colsL cs).take (k + 1)) = names ((colsL cs).take k) ++ [l] := by
          rw [take_succD (by rw [colsL_length]; exact hlt) default, colsL_getD hlt, HG.out, HL.out]
          simp [names, colL]
        rw [← hn2] at hW2
        replace HW2 := Lib.hid hW2
        clear hW2 hg q2 HW1 hn2 hc0 hc1
        by_cases hf : fine l (names ((colsL cs).take k)) = true
        · rw [hf]
          go_wp2_with fail
          refine (schema_isKind kd w2 (hT.later HB2.out)).mono ?_
          rintro e w3 ⟨rfl, hb⟩
          have HB3 := Lib.hid (HB2.out.trans (hb.mono HB2.out.size))
          have HW3 := Lib.hid (HW2.out.later hb (Nat.le_refl _))
          clear hb c0 c1
          by_cases hkd : 0 ≤ kd ∧ kd ≤ 5
          · rw [show kindOk kd = true from decide_eq_true hkd]
            have HN2 := Lib.hid (show errFrom [] (colsL cs) = errFrom (names ((colsL cs).take (k + 1))) ((colsL cs).drop (k + 1)) by
              rw [HN.out, HST.out]
              have e : colErr (names ((colsL cs).take k)) (l, kd) = 0 := by unfold colErr; rw [if_neg h32, if_neg (by rw [hf]; decide), if_neg (by dsimp only; omega)]
              rw [e]; rfl)
            clear hf
            go_wp2
            go_roundw
            case rel => exact ⟨k + 1, by omega, by go_num, HB3, HW3, HN2⟩
            case measure => simp [intOf]; omega
          · rw [show kindOk kd = false from decide_eq_false hkd]
            have HF := Lib.hid (show errS (colsL cs) = 10 by
              rw [HE.out, HN.out, HST.out]
              have e : colErr (names ((colsL cs).take k)) (l, kd) = 10 := by unfold colErr; rw [if_neg h32, if_neg (by rw [hf]; decide), if_pos (by dsimp only; omega)]
              rw [e]; rfl)
            clear hf
            go_wp2
            go_ret
            exact ⟨by rw [HF.out]; rfl, HB3.out⟩
        · have hf' : fine l (names ((colsL cs).take k)) = false := by simpa using hf
          have HF := Lib.hid (show errS (colsL cs) = 2 by
            rw [HE.out, HN.out, HST.out]
            have e : colErr (names ((colsL cs).take k)) (l, kd) = 2 := by unfold colErr; rw [if_neg h32, if_pos hf']
            rw [e]; rfl)
          rw [hf']
          clear hf hf'
          go_wp2
          go_ret
          exact ⟨by rw [HF.out]; rfl, HB2.out⟩
    · obtain rfl : k = cs.length := by omega
      have HF := Lib.hid (show errS (colsL cs) = 0 by
        rw [HE.out, HN.out, List.drop_of_length_le (by rw [colsL_length]; omega)]; rfl)
      clear hlt
      go_wp2
      go_ret
      exact ⟨by rw [HF.out]; rfl, HB.out⟩

end Go.Proofs.YteiphdcgffapbaaGreatDoor


/-
  The document's own answers for layer 5: a name that may be.
-/
namespace Go.Proofs.YteiphdcgffapbaaGreatDoor
open Go.RowKit Go.Shelf

end Go.Proofs.YteiphdcgffapbaaGreatDoor


/-
  The document's own answers for layer 5: Check.
-/
namespace Go.Proofs.YteiphdcgffapbaaGreatDoor
open Go.RowKit Go.Shelf

end Go.Proofs.YteiphdcgffapbaaGreatDoor


/-
  Two schemas, column by column: slices.Equal, Same, and the document's own.
-/
namespace Go.Proofs.YteiphdcgffapbaaGreatDoor
open Go.RowKit Go.Shelf

end Go.Proofs.YteiphdcgffapbaaGreatDoor

