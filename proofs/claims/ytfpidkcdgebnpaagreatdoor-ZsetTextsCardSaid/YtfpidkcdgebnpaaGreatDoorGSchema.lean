/-
  Package schema: the names that were, a kind, Check, Same.
-/
import Derived.Test.YtfpidkcdgebnpaaGreatDoorGBaseB
import Derived.Test.YtfpidkcdgebnpaaGreatDoorGWire
import Derived.Test.YtfpidkcdgebnpaaGreatDoorGCell
import Derived.Test.YtfpidkcdgebnpaaGreatDoorShelf5
import Derived.Shelf.Strings.SlTrimAscii
import Derived.Deep.QuietTactic
import Derived.BigQuiet
import Derived.Deep.RegionHeld3
import Derived.Deep.AppendLies
import Derived.Lib.SplitLaws
import Derived.Lib.SlicesS
import Derived.Test.YtfpidkcdgebnpaaGreatDoorGBaseA
set_option linter.unusedVariables false
set_option linter.unusedSimpArgs false
set_option maxRecDepth 1000000
namespace Go.Proofs.YtfpidkcdgebnpaaGreatDoor
open Go.RowKit Go.Shelf

/-- The bytes that names are made of. -/
def lettersL : List UInt8 := [97, 98, 99, 100, 101, 102, 103, 104, 105, 106, 107, 108, 109, 110, 111, 112, 113, 114, 115, 116, 117, 118, 119, 120, 121, 122, 48, 49, 50, 51, 52, 53, 54, 55, 56, 57, 95]
theorem letters_mem (c : UInt8) : lettersL.contains c = letterB c.toNat := by
  have : ∀ n : Fin 256, lettersL.contains (UInt8.ofNat n.val) = letterB n.val := by decide +kernel
  have h := this ⟨c.toNat, c.toNat_lt⟩
  rwa [UInt8.ofNat_toNat] at h
theorem trim_letters (l : List UInt8) : (Lib.trimLeftS l lettersL).isEmpty = l.all (fun c => letterB c.toNat) := by
  unfold Lib.trimLeftS
  induction l with
  | nil => rfl
  | cons a r ih =>
    rw [List.dropWhile_cons, List.all_cons, ← letters_mem a]
    by_cases ha : lettersL.contains a = true
    · rw [if_pos ha, ih, ha]; rfl
    · rw [if_neg ha]
      simp only [Bool.not_eq_true] at ha
      rw [ha]; rfl

theorem lib_Letters (s : ByteArray) (l : List UInt8) (w : World) (h : RdS s l) :
    Calls Tryz.prog 113 #[.string s, .string ({ data := #[97, 98, 99, 100, 101, 102, 103, 104, 105, 106, 107, 108, 109, 110, 111, 112, 113, 114, 115, 116, 117, 118, 119, 120, 121, 122, 48, 49, 50, 51, 52, 53, 54, 55, 56, 57, 95] } : ByteArray)] w fun e w' => e = .returned (.string ⟨(Lib.trimLeftS l lettersL).toArray⟩) ∧ Below w.heap.size w w' := by
  have c : Calls Tryz.prog 113 #[.string s, .string ({ data := #[97, 98, 99, 100, 101, 102, 103, 104, 105, 106, 107, 108, 109, 110, 111, 112, 113, 114, 115, 116, 117, 118, 119, 120, 121, 122, 48, 49, 50, 51, 52, 53, 54, 55, 56, 57, 95] } : ByteArray)] w _ := Any.strings_TrimLeft_laid Tryz.laysTrim (by kernel_rfl) s _ w (by decide) (ascii_of_all (by decide))
  rw [show s.data.toList = l from by rw [h.eq]] at c
  exact c

/-- The closure over the names that were: its variable in block c, the map in block m. -/
structure Were (w : World) (c m : Nat) (ah : List (List UInt8)) : Prop where
  var : w.heap[c]? = some (.cells #[.map (some m)] 174 (0, 0))
  set : SetOf w m ah
  ne : c ≠ m

theorem Were.later {w w' : World} {c m : Nat} {ah : List (List UInt8)} (h : Were w c m ah) {B : Nat} (hb : Below B w w') (hB : w.heap.size ≤ B) : Were w' c m ah :=
  ⟨(hb.block c (Nat.lt_of_lt_of_le (Array.getElem?_eq_some_iff.1 h.var).1 hB)).trans h.var, h.set.later hb hB, h.ne⟩
theorem Were.kept {w w' : World} {c m g : Nat} {ah : List (List UInt8)} (h : Were w c m ah) (hg : w.grownBy w' (some g)) (h1 : c ≠ g) (h2 : m ≠ g) : Were w' c m ah :=
  ⟨(hg.block c (Array.getElem?_eq_some_iff.1 h.var).1 (by simpa using h1)).trans h.var, h.set.kept hg (by simpa using h2), h.ne⟩
theorem Were.alloc {w : World} {c m : Nat} {ah : List (List UInt8)} (h : Were w c m ah) (o : Obj) : Were (w.alloc o) c m ah := h.later ((Below.refl w.heap.size w).alloc (Nat.le_refl _) o) (Nat.le_refl _)
theorem Were.lt {w : World} {c m : Nat} {ah : List (List UInt8)} (h : Were w c m ah) : c < w.heap.size ∧ m < w.heap.size := ⟨(Array.getElem?_eq_some_iff.1 h.var).1, h.set.lt⟩

theorem schema_namer (w : World) :
    Calls Tryz.prog 74 #[] w fun e w' => e = .returned (.func (.func 112) #[] #[.pointer (some ⟨w.heap.size + 1, 0, none⟩)]) ∧ Were w' (w.heap.size + 1) w.heap.size [] ∧ Below w.heap.size w w' := by
  have hmm := @run_makeMap Tryz.prog
  have hmf : ∀ (fn : Fn) (first cap : Array Value) (w : World), (Instr.makeFunc fn first cap).run Tryz.prog w = .ok (.func fn first cap) w := fun _ _ _ _ => rfl
  have hs := SetOf.made w
  obtain ⟨n0, n1, n2, n3⟩ := new2 w (.map #[] 0) (.cells #[.map (some w.heap.size)] 174)
  have HS := Lib.hid (hs.alloc (.cells #[.map (some w.heap.size)] 174))
  have H2 := Lib.hid n2
  have H3 := Lib.hid n3
  clear hs n0 n1 n2 n3
  go_enter Tryz.func74, Tryz.ntmps74
  go_wp2
  go_ret
  exact ⟨rfl, ⟨H2.out, HS.out, by omega⟩, H3.out⟩

theorem fine_eq (l : List UInt8) (ah : List (List UInt8)) : fine l ah = (!l.isEmpty && ((Lib.trimLeftS l lettersL).isEmpty && !ah.contains l)) := by
  unfold fine; rw [trim_letters]

theorem grown_after {w w1 w2 : World} {m : Nat} (hb : Below w.heap.size w w1) (hg : w1.grownBy w2 (some m)) : w.grownBy w2 (some m) :=
  ⟨hg.os.trans hb.os, hg.tape.trans hb.tape, hg.output.trans hb.output, Nat.le_trans hb.size hg.size, fun j hj hne => (hg.block j (Nat.lt_of_lt_of_le hj hb.size) hne).trans (hb.block j hj)⟩
theorem Were.put {w w' : World} {c m : Nat} {ah ah' : List (List UInt8)} (h : Were w c m ah) (hs : SetOf w' m ah') (hg : w.grownBy w' (some m)) : Were w' c m ah' :=
  ⟨(hg.block c (Array.getElem?_eq_some_iff.1 h.var).1 (by simpa using h.ne)).trans h.var, hs, h.ne⟩

set_option maxHeartbeats 2000000 in
theorem schema_fits (s : ByteArray) (l : List UInt8) (c m : Nat) (ah : List (List UInt8)) (w : World) (h : RdS s l) (hW : Were w c m ah) (hn : ah.length < 1000) :
    Calls Tryz.prog 112 #[.string s, .pointer (some ⟨c, 0, none⟩)] w fun e w' => e = .returned (.bool (fine l ah)) ∧ Were w' c m (ah ++ [l]) ∧ w.grownBy w' (some m) := by
  have hd : s.data.toList = l := by rw [h.eq]
  have hsm := h.small
  have hsz : s.size ≤ maxLen := by rw [h.eq]; simp [ByteArray.size]; unfold maxLen; omega
  have hemp := h.toList
  have HF := Lib.hid (fine_eq l ah)
  have HD := Lib.hid hd
  have HW := Lib.hid hW
  by_cases hl : l = []
  · have q1 : (s.toList != []) = false := by rw [hemp, hl]; rfl
    have q2 : s.toList.isEmpty = true := by rw [hemp, hl]; rfl
    have c0 := cell_of_one hW.var
    have HF2 := Lib.hid (show fine l ah = false by rw [HF.out, hl]; rfl)
    clear HF hl hemp hd hW
    go_enter Tryz.func112, Tryz.ntmps112
    go_wp2_with (at_mapUpdate; refine wpl_setName m ah HW.out.set ?_ s hsz ?_ ?_ ?_ ?_)
    · rfl
    · rfl
    · rfl
    · unfold maxLen; omega
    intro w1 hs1 hg1
    rw [HD.out] at hs1
    have HS1 := Lib.hid hs1
    have HG1 := Lib.hid hg1
    clear hs1 hg1 c0
    go_wp2
    go_ret
    exact ⟨by rw [HF2.out]; rfl, HW.out.put HS1.out HG1.out, HG1.out⟩
  · have q1 : (s.toList != []) = true := by rw [hemp]; simpa using hl
    have q2 : s.toList.isEmpty = false := by rw [hemp]; cases l <;> simp_all
    have hle : l.isEmpty = false := by cases l <;> simp_all
    have hT := lib_Letters s l w h
    obtain ⟨T, hT9⟩ : ∃ T : ByteArray, T = ⟨(Lib.trimLeftS l lettersL).toArray⟩ := ⟨_, rfl⟩
    have hTl : T.toList = Lib.trimLeftS l lettersL := by rw [hT9, Lib.toList_data]
    rw [← hT9] at hT
    by_cases htr : (Lib.trimLeftS l lettersL).isEmpty = true
    · have t1 : T.toList.isEmpty = true := by rw [hTl]; exact htr
      have t2 : (T.toList == []) = true := by rw [hTl]; simpa using htr
      have HF2 := Lib.hid (show fine l ah = !ah.contains l by rw [HF.out, hle, htr]; rfl)
      clear HF hl hemp hd hW hTl hT9 hle htr
      go_enter Tryz.func112, Tryz.ntmps112
      go_wp2_with fail
      refine hT.mono ?_
      rintro e w1 ⟨rfl, hb⟩
      have HB := Lib.hid hb
      have hW1 := HW.out.later hb (Nat.le_refl _)
      have c0 := cell_of_one hW1.var
      have hlk := hW1.set.look s hsz
      rw [HD.out] at hlk
      obtain ⟨bb, hbb⟩ : ∃ bb, bb = ah.contains l := ⟨_, rfl⟩
      rw [← hbb] at hlk
      have HBB := Lib.hid hbb
      have HW1 := Lib.hid hW1
      clear hb hW1 hbb hT
      go_wp2_with (at_mapUpdate; refine wpl_setName m ah HW1.out.set ?_ s hsz ?_ ?_ ?_ ?_)
      · rfl
      · rfl
      · rfl
      · unfold maxLen; omega
      intro w2 hs1 hg1
      rw [HD.out] at hs1
      have HS1 := Lib.hid hs1
      have HG1 := Lib.hid hg1
      clear hs1 hg1 c0 hlk
      go_wp2
      go_ret
      exact ⟨by rw [HF2.out, ← HBB.out]; rfl, HW1.out.put HS1.out HG1.out, grown_after HB.out HG1.out⟩
    · have t1 : T.toList.isEmpty = false := by rw [hTl]; simpa using htr
      have t2 : (T.toList == []) = false := by rw [hTl]; simpa using htr
      have HF2 := Lib.hid (show fine l ah = false by rw [HF.out, hle, show (Lib.trimLeftS l lettersL).isEmpty = false by simpa using htr]; rfl)
      clear HF hl hemp hd hW hTl hT9 hle htr
      go_enter Tryz.func112, Tryz.ntmps112
      go_wp2_with fail
      refine hT.mono ?_
      rintro e w1 ⟨rfl, hb⟩
      have HB := Lib.hid hb
      have hW1 := HW.out.later hb (Nat.le_refl _)
      have c0 := cell_of_one hW1.var
      have HW1 := Lib.hid hW1
      clear hb hW1 hT
      go_wp2_with (at_mapUpdate; refine wpl_setName m ah HW1.out.set ?_ s hsz ?_ ?_ ?_ ?_)
      · rfl
      · rfl
      · rfl
      · unfold maxLen; omega
      intro w2 hs1 hg1
      rw [HD.out] at hs1
      have HS1 := Lib.hid hs1
      have HG1 := Lib.hid hg1
      clear hs1 hg1 c0
      go_wp2
      go_ret
      exact ⟨by rw [HF2.out]; rfl, HW1.out.put HS1.out HG1.out, grown_after HB.out HG1.out⟩

/-- A kind that there is. -/
def kindOk (k : Int) : Bool := decide (0 ≤ k ∧ k ≤ 5)
theorem check_kind5 (k : Int) : (((checkC k 0 [] : Nat) : Int) == 0) = kindOk k := by
  unfold kindOk
  by_cases h : 0 ≤ k ∧ k ≤ 5
  · rw [decide_eq_true h]
    have : checkC k 0 [] = 0 := by
      unfold checkC
      rw [if_neg (by omega), if_neg ?_, if_neg (by simp)]
      rintro (⟨_, b⟩ | ⟨_, b⟩ | ⟨_, b⟩ | ⟨_, b⟩)
      · exact b rfl
      · exact b rfl
      · omega
      · exact absurd b (by decide +kernel)
    rw [this]; rfl
  · rw [decide_eq_false h]
    have : checkC k 0 [] = 10 := by unfold checkC; rw [if_pos (by omega)]
    rw [this]; rfl

theorem schema_isKind (k : Int) (w : World) (hT : Tabs w) :
    Calls Tryz.prog 75 #[.int .i64 k] w fun e w' => e = .returned (.bool (kindOk k)) ∧ Below w.heap.size w w' := by
  have hc := check_kind5 k
  obtain ⟨n, hn⟩ : ∃ n, n = checkC k 0 [] := ⟨_, rfl⟩
  rw [← hn] at hc
  have HC := Lib.hid hc
  have HN := Lib.hid hn
  have hcv : cellV 0 ⟨#[]⟩ = .agg #[.int .u64 0, .string ⟨#[]⟩] := rfl
  have hk := cell_Check k 0 ⟨#[]⟩ [] w ⟨rfl, by simp⟩ hT
  rw [hcv, ← hn] at hk
  clear hc hn hcv
  go_enter Tryz.func75, Tryz.ntmps75
  go_wp2_with fail
  refine hk.mono ?_
  rintro e w1 ⟨rfl, hb⟩
  have HB := Lib.hid hb
  clear hb hk
  go_wp2
  go_ret
  exact ⟨by rw [← HC.out]; rfl, HB.out⟩

end Go.Proofs.YtfpidkcdgebnpaaGreatDoor


/-
  Package schema: Check.
-/
namespace Go.Proofs.YtfpidkcdgebnpaaGreatDoor
open Go.RowKit Go.Shelf

/-- A column as its name's bytes and its kind. -/
def colL (c : ColB) : Col := (c.1.data.toList, c.2)
def colsL (cs : List ColB) : List Col := cs.map colL
theorem colsL_length (cs : List ColB) : (colsL cs).length = cs.length := by simp [colsL]
theorem colsL_getD {cs : List ColB} {k : Nat} (h : k < cs.length) : (colsL cs).getD k default = colL (cs.getD k default) := by
  simp [colsL, List.getD, h]
theorem CS.get {cs : List ColB} (h : CS cs) {k : Nat} (hk : k < cs.length) : (cs.getD k default).1.size ≤ 140737488351232 ∧ -9223372036854775808 ≤ (cs.getD k default).2 ∧ (cs.getD k default).2 ≤ 9223372036854775807 := by
  have e : cs.getD k default = cs[k] := by simp [List.getD, hk]
  rw [e]; exact h _ (List.getElem_mem _)

set_option maxHeartbeats 4000000 in
theorem schema_Check (v : Value) (cs : List ColB) (w : World) (h : RdC w v cs) (hC : CS cs) (hT : Tabs w) :
    Calls Tryz.prog 46 #[v] w fun e w' => e = .returned (.int .i64 (errS (colsL cs) : Nat)) ∧ Below w.heap.size w w' := by
  have hlen := h.len
  have hsm := h.small
  by_cases h0 : cs.length = 0
  · have HE := Lib.hid (show errS (colsL cs) = 4 by unfold errS; rw [colsL_length, if_pos h0])
    have q : ((cs.length : Int) == 0) = true := by rw [h0]; rfl
    clear h0 h
    go_enter Tryz.func46, Tryz.ntmps46
    go_wp2
    go_ret
    exact ⟨by rw [HE.out]; rfl, Below.refl _ _⟩
  have q : ((cs.length : Int) == 0) = false := by rw [beq_eq_false_iff_ne]; omega
  by_cases h8 : 8 < cs.length
  · have HE := Lib.hid (show errS (colsL cs) = 13 by unfold errS; rw [colsL_length, if_neg h0, if_pos h8])
    have q2 : decide ((cs.length : Int) > 8) = true := decide_eq_true (by omega)
    clear h0 h
    go_enter Tryz.func46, Tryz.ntmps46
    go_wp2
    go_ret
    exact ⟨by rw [HE.out]; rfl, Below.refl _ _⟩
  have q2 : decide ((cs.length : Int) > 8) = false := decide_eq_false (by omega)
  have HE := Lib.hid (show errS (colsL cs) = errFrom [] (colsL cs) by unfold errS; rw [colsL_length, if_neg h0, if_neg h8])
  clear h0
  have HH := Lib.hid h
  clear h
  go_enter Tryz.func46, Tryz.ntmps46
  go_wp2_with fail
  refine (schema_namer w).mono ?_
  rintro e w1 ⟨rfl, hW, hb⟩
  have HW := Lib.hid hW
  have HB := Lib.hid hb
  clear hW hb
  go_wp2
  go_loopw [15] (fun i wr => ∃ k : Nat, k ≤ cs.length ∧ i = .int .i64 k ∧ Hid (Below w.heap.size w wr) ∧ Hid (Were wr (w.heap.size + 1) w.heap.size (names ((colsL cs).take k))) ∧ Hid (errFrom [] (colsL cs) = errFrom (names ((colsL cs).take k)) ((colsL cs).drop k))) (fun i _ => cs.length - (intOf i).toNat)
  case atStart => exact ⟨0, by omega, rfl, HB, HW, Lib.hid rfl⟩
  case round =>
    clear HW HB
    obtain ⟨k, hk, rfl, HB, HW, HN⟩ := hrel
    by_cases hlt : k < cs.length
    · have hr := HH.out.later HB.out (Nat.le_refl _)
      obtain ⟨b, o, hidx, hcell, hblk⟩ := hr.get hlt
      obtain ⟨hc0, hc1⟩ := hcell _ hr
      obtain ⟨hs1, hk1, hk2⟩ := hC.get hlt
      have hst := errFrom_step (cs := colsL cs) (k := k) (by rw [colsL_length]; exact hlt)
      rw [colsL_getD hlt] at hst
      rcases hcg : cs.getD k default with ⟨s, kd⟩
      rw [hcg] at hc0 hc1 hs1 hk1 hk2 hst
      dsimp only at hc0 hc1 hs1 hk1 hk2
      have hS := rdS_of hs1
      obtain ⟨l, hl⟩ : ∃ l, l = s.data.toList := ⟨_, rfl⟩
      rw [← hl] at hS
      have hst : errFrom (names ((colsL cs).take k)) ((colsL cs).drop k) = if colErr (names ((colsL cs).take k)) (l, kd) ≠ 0 then colErr (names ((colsL cs).take k)) (l, kd) else errFrom (names ((colsL cs).take (k + 1))) ((colsL cs).drop (k + 1)) := by
        rw [hst]; unfold colL; rw [← hl]
      have HST := Lib.hid hst
      have HG := Lib.hid hcg
      have hsl := hS.len
      have hidx' := hidx
      have HL := Lib.hid hl
      have HS := Lib.hid hS
      clear hst hcg hcell hr hl hS hs1
      by_cases h32 : 32 < l.length
      · have q3 : decide ((l.length : Int) > 32) = true := decide_eq_true (by omega)
        have HF := Lib.hid (show errS (colsL cs) = 7 by
          rw [HE.out, HN.out, HST.out]
          have e : colErr (names ((colsL cs).take k)) (l, kd) = 7 := by unfold colErr; exact if_pos h32
          rw [e]; rfl)
        go_wp2
        go_ret
        exact ⟨by rw [HF.out]; rfl, HB.out.alloc HB.out.size _⟩
      · have q3 : decide ((l.length : Int) > 32) = false := decide_eq_false (by omega)
        have HB1 := Lib.hid (HB.out.alloc HB.out.size (.cells #[.string s, .int .i64 kd] 110))
        obtain ⟨N0, N1, N2⟩ := new1 wr (.cells #[.string s, .int .i64 kd] 110)
        have HW1 := Lib.hid (HW.out.alloc (.cells #[.string s, .int .i64 kd] 110))
        have Q1 := Lib.hid N1
        have hwr := HB.out.size
        have hwl := HW.out.lt
        clear N0 N1 N2
        go_wp2_with fail
        refine (schema_fits s l (w.heap.size + 1) w.heap.size _ _ HS.out HW1.out (by simp [names]; omega)).mono ?_
        rintro e w2 ⟨rfl, hW2, hg⟩
        have HW2 := Lib.hid hW2
        have q2 := (hg.block wr.heap.size (by simp) (by simp; omega)).trans Q1.out
        have c0 := new_cellC (i := 0) q2 rfl
        have c1 := new_cellC (i := 1) q2 rfl
        have HB2 := Lib.hid (HB1.out.grown hg (by simp; omega) (fun j hj => by cases hj; exact Nat.le_refl _))
        have hn2 : names ((colsL cs).take (k + 1)) = names ((colsL cs).take k) ++ [l] := by
          rw [take_succD (by rw [colsL_length]; exact hlt) default, colsL_getD hlt, HG.out, HL.out]
          simp [names, colL]
        rw [← hn2] at hW2
        replace HW2 := Lib.hid hW2
        clear hW2 hg q2 HW1 hn2 hc0 hc1
        by_cases hf : fine l (names ((colsL cs).take k)) = true
        · rw [hf]
          go_wp2_with fail
          refine (schema_isKind kd w2 (hT.later HB2.out)).mono ?_
          rintro e w3 ⟨rfl, hb⟩
          have HB3 := Lib.hid (HB2.out.trans (hb.mono HB2.out.size))
          have HW3 := Lib.hid (HW2.out.later hb (Nat.le_refl _))
          clear hb c0 c1
          by_cases hkd : 0 ≤ kd ∧ kd ≤ 5
          · rw [show kindOk kd = true from decide_eq_true hkd]
            have HN2 := Lib.hid (show errFrom [] (colsL cs) = errFrom (names ((colsL cs).take (k + 1))) ((colsL cs).drop (k + 1)) by
              rw [HN.out, HST.out]
              have e : colErr (names ((colsL cs).take k)) (l, kd) = 0 := by unfold colErr; rw [if_neg h32, if_neg (by rw [hf]; decide), if_neg (by dsimp only; omega)]
              rw [e]; rfl)
            clear hf
            go_wp2
            go_roundw
            case rel => exact ⟨k + 1, by omega, by go_num, HB3, HW3, HN2⟩
            case measure => simp [intOf]; omega
          · rw [show kindOk kd = false from decide_eq_false hkd]
            have HF := Lib.hid (show errS (colsL cs) = 10 by
              rw [HE.out, HN.out, HST.out]
              have e : colErr (names ((colsL cs).take k)) (l, kd) = 10 := by unfold colErr; rw [if_neg h32, if_neg (by rw [hf]; decide), if_pos (by dsimp only; omega)]
              rw [e]; rfl)
            clear hf
            go_wp2
            go_ret
            exact ⟨by rw [HF.out]; rfl, HB3.out⟩
        · have hf' : fine l (names ((colsL cs).take k)) = false := by simpa using hf
          have HF := Lib.hid (show errS (colsL cs) = 2 by
            rw [HE.out, HN.out, HST.out]
            have e : colErr (names ((colsL cs).take k)) (l, kd) = 2 := by unfold colErr; rw [if_neg h32, if_pos hf']
            rw [e]; rfl)
          rw [hf']
          clear hf hf'
          go_wp2
          go_ret
          exact ⟨by rw [HF.out]; rfl, HB2.out⟩
    · obtain rfl : k = cs.length := by omega
      have HF := Lib.hid (show errS (colsL cs) = 0 by
        rw [HE.out, HN.out, List.drop_of_length_le (by rw [colsL_length]; omega)]; rfl)
      clear hlt
      go_wp2
      go_ret
      exact ⟨by rw [HF.out]; rfl, HB.out⟩

end Go.Proofs.YtfpidkcdgebnpaaGreatDoor


/-
  The document's own answers for layer 5: a name that may be.
-/
namespace Go.Proofs.YtfpidkcdgebnpaaGreatDoor
open Go.RowKit Go.Shelf

theorem all_step {l : List UInt8} {k : Nat} (h : k < l.length) (p : UInt8 → Bool) : (l.take (k + 1)).all p = ((l.take k).all p && p (l.getD k 0)) := by
  rw [take_succD h 0, List.all_append]; simp
theorem names_step {cs : List ColB} {k : Nat} (h : k < cs.length) : names ((colsL cs).take (k + 1)) = names ((colsL cs).take k) ++ [(cs.getD k default).1.data.toList] := by
  rw [take_succD (by rw [colsL_length]; exact h) default, colsL_getD h]
  simp [names, colL]

set_option maxHeartbeats 4000000 in
theorem ref_Fine (s : ByteArray) (l : List UInt8) (v : Value) (cs : List ColB) (w : World) (h : RdS s l) (hR : RdC w v cs) :
    Calls Tryz.prog 71 #[.string s, v] w fun e w' => e = .returned (.bool (fine l (names (colsL cs)))) ∧ w' = w := by
  have hlen := h.len
  have hsm := h.small
  have htl := h.toList
  have hdl : s.data.toList = l := by rw [h.eq]
  have hcl := hR.len
  have hcs := hR.small
  by_cases hl : l = []
  · have q : s.toList.isEmpty = true := by rw [htl, hl]; rfl
    have q2 : (s.toList == []) = true := by rw [htl, hl]; rfl
    have HF := Lib.hid (show fine l (names (colsL cs)) = false by rw [hl]; rfl)
    clear htl hdl hl hlen
    go_enter Tryz.func71, Tryz.ntmps71
    go_wp2
    go_ret
    exact ⟨by rw [HF.out]; rfl, rfl⟩
  have q : s.toList.isEmpty = false := by rw [htl]; cases l <;> simp_all
  have q2 : (s.toList == []) = false := by rw [htl]; simpa using hl
  have hle : l.isEmpty = false := by cases l <;> simp_all
  have HE := Lib.hid (show fine l (names (colsL cs)) = (l.all (fun c => letterB c.toNat) && !(names (colsL cs)).contains l) by unfold fine; rw [hle]; rfl)
  have HI := Lib.hid h.idx
  have HTL := Lib.hid htl
  have HR := Lib.hid hR
  have HDL := Lib.hid hdl
  clear htl hle hl hR hdl
  go_enter Tryz.func71, Tryz.ntmps71
  go_wp2
  go_loop [5] (fun i => ∃ k : Nat, k ≤ l.length ∧ i = .int .i64 k ∧ Hid ((l.take k).all (fun c => letterB c.toNat) = true)) (fun i => l.length - (intOf i).toNat)
  case atStart => exact ⟨0, by omega, rfl, Lib.hid rfl⟩
  case round =>
    obtain ⟨k, hk, rfl, HA⟩ := hrel
    by_cases hlt : k < l.length
    · have hx := HI.out k hlt
      obtain ⟨c, hc⟩ : ∃ c : Nat, c = (l.getD k 0).toNat := ⟨_, rfl⟩
      have hc9 : at8 l k = (c : Int) := by rw [hc]; rfl
      have hc1 : c < 256 := by rw [hc]; exact (l.getD k 0).toNat_lt
      rw [hc9] at hx
      have hst := all_step hlt (fun c => letterB c.toNat)
      have HS := Lib.hid (show (l.take (k + 1)).all (fun c => letterB c.toNat) = letterB c by rw [hst, HA.out, ← hc]; rfl)
      have HL := Lib.hid (show l.all (fun c => letterB c.toNat) = true → letterB c = true from fun hh => by
        rw [hc]
        have e : l.getD k 0 = l[k] := by simp [List.getD, hlt]
        rw [e]
        exact List.all_eq_true.1 hh _ (List.getElem_mem _))
      clear hc hc9 hst
      by_cases hle : letterB c = true
      · have HS2 := Lib.hid (HS.out.trans hle)
        unfold letterB at hle
        have hle := of_decide_eq_true hle
        clear HS HL
        rcases hle with ⟨p1, p2⟩ | ⟨p1, p2⟩ | p1
        · have d1 : decide ((c : Int) ≥ 97) = true := decide_eq_true (by omega)
          have d2 : decide ((c : Int) ≤ 122) = true := decide_eq_true (by omega)
          go_wp2
          go_round
          case rel => exact ⟨k + 1, by omega, by go_num, HS2⟩
          case measure => simp [intOf]; omega
        · have d1 : decide ((c : Int) ≥ 97) = false := decide_eq_false (by omega)
          have d2 : decide ((c : Int) ≥ 48) = true := decide_eq_true (by omega)
          have d3 : decide ((c : Int) ≤ 57) = true := decide_eq_true (by omega)
          go_wp2
          go_round
          case rel => exact ⟨k + 1, by omega, by go_num, HS2⟩
          case measure => simp [intOf]; omega
        · have d1 : decide ((c : Int) ≥ 97) = false := decide_eq_false (by omega)
          have d2 : decide ((c : Int) ≥ 48) = true := decide_eq_true (by omega)
          have d3 : decide ((c : Int) ≤ 57) = false := decide_eq_false (by omega)
          have d4 : ((c : Int) == 95) = true := by rw [p1]; rfl
          clear p1
          go_wp2
          go_round
          case rel => exact ⟨k + 1, by omega, by go_num, HS2⟩
          case measure => simp [intOf]; omega
      · have HF := Lib.hid (show fine l (names (colsL cs)) = false by
          rw [HE.out, show l.all (fun c => letterB c.toNat) = false from by
            cases hb : l.all (fun c => letterB c.toNat) with
            | false => rfl
            | true => exact absurd (HL.out hb) hle]
          rfl)
        unfold letterB at hle
        have hle : ¬ (97 ≤ c ∧ c ≤ 122 ∨ 48 ≤ c ∧ c ≤ 57 ∨ c = 95) := fun hh => hle (decide_eq_true hh)
        clear HS HL
        have d4 : ((c : Int) == 95) = false := by rw [beq_eq_false_iff_ne]; omega
        by_cases p1 : 97 ≤ c
        · have d1 : decide ((c : Int) ≥ 97) = true := decide_eq_true (by omega)
          have d2 : decide ((c : Int) ≤ 122) = false := decide_eq_false (by omega)
          have d5 : decide ((c : Int) ≥ 48) = true := decide_eq_true (by omega)
          have d3 : decide ((c : Int) ≤ 57) = false := decide_eq_false (by omega)
          go_wp2
          go_ret
          exact ⟨by rw [HF.out]; rfl, rfl⟩
        · have d1 : decide ((c : Int) ≥ 97) = false := decide_eq_false (by omega)
          by_cases p2 : 48 ≤ c
          · have d5 : decide ((c : Int) ≥ 48) = true := decide_eq_true (by omega)
            have d3 : decide ((c : Int) ≤ 57) = false := decide_eq_false (by omega)
            go_wp2
            go_ret
            exact ⟨by rw [HF.out]; rfl, rfl⟩
          · have d5 : decide ((c : Int) ≥ 48) = false := decide_eq_false (by omega)
            go_wp2
            go_ret
            exact ⟨by rw [HF.out]; rfl, rfl⟩
    · obtain rfl : k = l.length := by omega
      have HE2 := Lib.hid (show fine l (names (colsL cs)) = !(names (colsL cs)).contains l by
        have := HA.out
        rw [List.take_of_length_le (Nat.le_refl _)] at this
        rw [HE.out, this]; rfl)
      clear HA HE
      go_wp2
      go_loop [7] (fun i => ∃ k : Nat, k ≤ cs.length ∧ i = .int .i64 k ∧ Hid ((names ((colsL cs).take k)).contains l = false)) (fun i => cs.length - (intOf i).toNat)
      case atStart => exact ⟨0, by omega, rfl, Lib.hid rfl⟩
      case round =>
        obtain ⟨k, hk, rfl, HA⟩ := hrel
        by_cases hlt : k < cs.length
        · obtain ⟨b, o, hi, hc, hb⟩ := HR.out.get hlt
          obtain ⟨c0, c1⟩ := hc _ HR.out
          have hns := names_step hlt
          have HIN := Lib.hid (show (cs.getD k default).1.data.toList ∈ names (colsL cs) from by
            have e : cs.getD k default = cs[k] := by simp [List.getD, hlt]
            rw [e]
            exact List.mem_map.2 ⟨colL cs[k], List.mem_map.2 ⟨cs[k], List.getElem_mem _, rfl⟩, rfl⟩)
          rcases hcg : cs.getD k default with ⟨t, kd⟩
          rw [hcg] at c0 c1 hns HIN
          dsimp only at c0 c1 hns
          have HNS := Lib.hid hns
          clear hc hns hcg
          by_cases hst : t = s
          · subst hst
            have HF := Lib.hid (show fine l (names (colsL cs)) = false by
              rw [HE2.out]
              have := HIN.out
              dsimp only at this
              rw [HDL.out] at this
              simpa using this)
            clear HNS HIN
            go_wp2
            go_ret
            exact ⟨by rw [HF.out]; rfl, rfl⟩
          · have hne : (t.toList == s.toList) = false := by
              rw [beq_eq_false_iff_ne]
              intro e
              rw [Lib.toList_data, Lib.toList_data] at e
              exact hst (by cases s; cases t; simp at e; rw [e])
            have HN2 := Lib.hid (show (names ((colsL cs).take (k + 1))).contains l = false by
              rw [HNS.out]
              have h0 := HA.out
              have h1 : ¬ l = t.data.toList := fun e => hst (by
                have := HDL.out
                rw [e] at this
                cases s; cases t; simp at this; rw [this])
              simp at h0 ⊢
              exact ⟨h0, h1⟩)
            clear HNS hst HIN
            go_wp2
            go_round
            case rel => exact ⟨k + 1, by omega, by go_num, HN2⟩
            case measure => simp [intOf]; omega
        · obtain rfl : k = cs.length := by omega
          have HF := Lib.hid (show fine l (names (colsL cs)) = true by
            have := HA.out
            rw [List.take_of_length_le (by rw [colsL_length]; exact Nat.le_refl _)] at this
            rw [HE2.out, this]; rfl)
          clear hlt
          go_wp2
          go_ret
          exact ⟨by rw [HF.out]; rfl, rfl⟩

end Go.Proofs.YtfpidkcdgebnpaaGreatDoor


/-
  The document's own answers for layer 5: Check.
-/
namespace Go.Proofs.YtfpidkcdgebnpaaGreatDoor
open Go.RowKit Go.Shelf

/-- 's[:i]' of a slice of columns. -/
theorem RdC.upto {w : World} {v : Value} {cs : List ColB} (h : RdC w v cs) (i : Nat) (hi : i ≤ cs.length) :
    ∃ v', (∀ u, (Instr.slice 22 v none (some (.int .i64 (i : Int))) none).run Tryz.prog u = .ok v' u) ∧ ∀ w', RdC w' v cs → RdC w' v' (cs.take i) := by
  obtain ⟨ao, cap, hv, hcap, hnil, hsome⟩ := RdG.shape h
  rw [List.length_map] at hcap hsome hv
  subst hv
  refine ⟨.slice ao i cap, fun u => ?_, fun w' h' => ?_⟩
  · rw [run_slice_h (P := Tryz.prog) u 22 ao cs.length cap Tryz.underlying22 .i64 i (by omega) (by omega)]
    simp [go_sem, Result.andThen, sliced]
  · have hsm := RdC.small h'
    have hlen : (cs.take i).length = i := by simp; omega
    refine ⟨⟨ao, cap, by rw [List.length_map, hlen], by rw [List.length_map, hlen]; omega, hnil, fun hp => hsome (by rw [List.length_map, hlen] at hp; omega)⟩, fun j hj k u hu => ?_, fun x hx => ?_, by rw [List.length_map, hlen]; omega⟩
    · rw [List.length_map, hlen] at hj
      have hjc : j < cs.length := by omega
      have e : ((cs.take i).map colV).getD j [] = (cs.map colV).getD j [] := by
        rw [getD_map colV _ j (by rw [hlen]; exact hj) default, getD_map colV _ j hjc default]
        congr 1
        simp [List.getD, hj]
      rw [e] at hu
      have := RdG.cells h' j (by rw [List.length_map]; exact hjc) k u hu
      obtain ⟨b, o, he⟩ := hsome (by omega)
      subst he
      rw [adr_lit] at this ⊢
      exact this
    · obtain ⟨c, _, rfl⟩ := List.mem_map.1 hx
      rfl

set_option maxHeartbeats 4000000 in
theorem ref_Check05 (v : Value) (cs : List ColB) (w : World) (h : RdC w v cs) (hC : CS cs) :
    Calls Tryz.prog 40 #[v] w fun e w' => e = .returned (.int .i64 (errS (colsL cs) : Nat)) ∧ Below w.heap.size w w' := by
  have hlen := h.len
  have hsm := h.small
  by_cases h0 : cs.length = 0
  · have HE := Lib.hid (show errS (colsL cs) = 4 by unfold errS; rw [colsL_length, if_pos h0])
    have q : ((cs.length : Int) == 0) = true := by rw [h0]; rfl
    clear h0 h
    go_enter Tryz.func40, Tryz.ntmps40
    go_wp2
    go_ret
    exact ⟨by rw [HE.out]; rfl, Below.refl _ _⟩
  have q : ((cs.length : Int) == 0) = false := by rw [beq_eq_false_iff_ne]; omega
  by_cases h8 : 8 < cs.length
  · have HE := Lib.hid (show errS (colsL cs) = 13 by unfold errS; rw [colsL_length, if_neg h0, if_pos h8])
    have q2 : decide ((cs.length : Int) > 8) = true := decide_eq_true (by omega)
    clear h0 h
    go_enter Tryz.func40, Tryz.ntmps40
    go_wp2
    go_ret
    exact ⟨by rw [HE.out]; rfl, Below.refl _ _⟩
  have q2 : decide ((cs.length : Int) > 8) = false := decide_eq_false (by omega)
  have HE := Lib.hid (show errS (colsL cs) = errFrom [] (colsL cs) by unfold errS; rw [colsL_length, if_neg h0, if_neg h8])
  clear h0
  have HH := Lib.hid h
  have HB0 := Lib.hid (Below.refl w.heap.size w)
  clear h
  go_enter Tryz.func40, Tryz.ntmps40
  go_wp2
  go_loopw [3] (fun i wr => ∃ k : Nat, k ≤ cs.length ∧ i = .int .i64 k ∧ Hid (Below w.heap.size w wr) ∧ Hid (errFrom [] (colsL cs) = errFrom (names ((colsL cs).take k)) ((colsL cs).drop k))) (fun i _ => cs.length - (intOf i).toNat)
  case atStart => exact ⟨0, by omega, rfl, HB0, Lib.hid rfl⟩
  case round =>
    clear HB0
    obtain ⟨k, hk, rfl, HB, HN⟩ := hrel
    by_cases hlt : k < cs.length
    · have hr := HH.out.later HB.out (Nat.le_refl _)
      obtain ⟨b, o, hidx, hcell, hblk⟩ := hr.get hlt
      obtain ⟨hc0, hc1⟩ := hcell _ hr
      obtain ⟨vu, hup, hur⟩ := hr.upto k hk
      have HU := Lib.hid (hur _ hr)
      obtain ⟨hs1, hk1, hk2⟩ := hC.get hlt
      have hst := errFrom_step (cs := colsL cs) (k := k) (by rw [colsL_length]; exact hlt)
      rw [colsL_getD hlt] at hst
      rcases hcg : cs.getD k default with ⟨s, kd⟩
      rw [hcg] at hc0 hc1 hs1 hk1 hk2 hst
      dsimp only at hc0 hc1 hs1 hk1 hk2
      have hS := rdS_of hs1
      obtain ⟨l, hl⟩ : ∃ l, l = s.data.toList := ⟨_, rfl⟩
      rw [← hl] at hS
      have hst : errFrom (names ((colsL cs).take k)) ((colsL cs).drop k) = if colErr (names ((colsL cs).take k)) (l, kd) ≠ 0 then colErr (names ((colsL cs).take k)) (l, kd) else errFrom (names ((colsL cs).take (k + 1))) ((colsL cs).drop (k + 1)) := by
        rw [hst]; unfold colL; rw [← hl]
      have HST := Lib.hid hst
      have hsl := hS.len
      have HS := Lib.hid hS
      have hnm : names (colsL (cs.take k)) = names ((colsL cs).take k) := by unfold colsL; rw [List.map_take]
      have hfn := fun u (hu : RdC u vu (cs.take k)) => ref_Fine s l vu (cs.take k) u HS.out hu
      rw [hnm] at hfn
      obtain ⟨ff, hff⟩ : ∃ ff, ff = fine l (names ((colsL cs).take k)) := ⟨_, rfl⟩
      rw [← hff] at hfn
      have HFN := Lib.hid hfn
      have HFF := Lib.hid hff
      clear hst hcg hcell hr hl hS hs1 hnm hfn hff hur
      by_cases h32 : 32 < l.length
      · have q3 : decide ((l.length : Int) > 32) = true := decide_eq_true (by omega)
        have HF := Lib.hid (show errS (colsL cs) = 7 by
          rw [HE.out, HN.out, HST.out]
          have e : colErr (names ((colsL cs).take k)) (l, kd) = 7 := by unfold colErr; exact if_pos h32
          rw [e]; rfl)
        go_wp2
        go_ret
        exact ⟨by rw [HF.out]; rfl, HB.out⟩
      · have q3 : decide ((l.length : Int) > 32) = false := decide_eq_false (by omega)
        cases ff with
        | false =>
          have HF := Lib.hid (show errS (colsL cs) = 2 by
            rw [HE.out, HN.out, HST.out]
            have e : colErr (names ((colsL cs).take k)) (l, kd) = 2 := by unfold colErr; rw [if_neg h32, if_pos HFF.out.symm]
            rw [e]; rfl)
          go_wp2_with fail
          go_quiet ((go_at_call 71; exact Calls.quiet_of_same (HFN.out _ (HU.out.later (below_drewN (Below.refl _ _) _) (Nat.le_refl _)))))
          go_wp2
          go_ret
          exact ⟨by rw [HF.out]; rfl, below_drewN HB.out _⟩
        | true =>
          by_cases hkd : 0 ≤ kd ∧ kd ≤ 5
          · have HN2 := Lib.hid (show errFrom [] (colsL cs) = errFrom (names ((colsL cs).take (k + 1))) ((colsL cs).drop (k + 1)) by
              rw [HN.out, HST.out]
              have e : colErr (names ((colsL cs).take k)) (l, kd) = 0 := by unfold colErr; rw [if_neg h32, if_neg (by rw [← HFF.out]; decide), if_neg (by dsimp only; omega)]
              rw [e]; rfl)
            have d1 : decide (kd < 0) = false := decide_eq_false (by omega)
            have d2 : decide (kd > 5) = false := decide_eq_false (by omega)
            go_wp2_with fail
            go_quiet ((go_at_call 71; exact Calls.quiet_of_same (HFN.out _ (HU.out.later (below_drewN (Below.refl _ _) _) (Nat.le_refl _)))))
            go_wp2
            go_roundw
            case rel => exact ⟨k + 1, by omega, by go_num, Lib.hid (below_drewN HB.out _), HN2⟩
            case measure => simp [intOf]; omega
          · have HF := Lib.hid (show errS (colsL cs) = 10 by
              rw [HE.out, HN.out, HST.out]
              have e : colErr (names ((colsL cs).take k)) (l, kd) = 10 := by unfold colErr; rw [if_neg h32, if_neg (by rw [← HFF.out]; decide), if_pos (by dsimp only; omega)]
              rw [e]; rfl)
            by_cases hk0 : kd < 0
            · have d1 : decide (kd < 0) = true := decide_eq_true hk0
              go_wp2_with fail
              go_quiet ((go_at_call 71; exact Calls.quiet_of_same (HFN.out _ (HU.out.later (below_drewN (Below.refl _ _) _) (Nat.le_refl _)))))
              go_wp2
              go_ret
              exact ⟨by rw [HF.out]; rfl, below_drewN HB.out _⟩
            · have d1 : decide (kd < 0) = false := decide_eq_false (by omega)
              have d2 : decide (kd > 5) = true := decide_eq_true (by omega)
              go_wp2_with fail
              go_quiet ((go_at_call 71; exact Calls.quiet_of_same (HFN.out _ (HU.out.later (below_drewN (Below.refl _ _) _) (Nat.le_refl _)))))
              go_wp2
              go_ret
              exact ⟨by rw [HF.out]; rfl, below_drewN HB.out _⟩
    · obtain rfl : k = cs.length := by omega
      have HF := Lib.hid (show errS (colsL cs) = 0 by
        rw [HE.out, HN.out, List.drop_of_length_le (by rw [colsL_length]; omega)]; rfl)
      clear hlt
      go_wp2
      go_ret
      exact ⟨by rw [HF.out]; rfl, HB.out⟩

end Go.Proofs.YtfpidkcdgebnpaaGreatDoor


/-
  Two schemas, column by column: slices.Equal, Same, and the document's own.
-/
namespace Go.Proofs.YtfpidkcdgebnpaaGreatDoor
open Go.RowKit Go.Shelf

theorem eq_step {cs ds : List ColB} {k : Nat} (h1 : k < cs.length) (h2 : k < ds.length) (h : cs.take k = ds.take k) (he : cs.getD k default = ds.getD k default) : cs.take (k + 1) = ds.take (k + 1) := by
  rw [take_succD h1 default, take_succD h2 default, h, he]
theorem str_ne {s t : ByteArray} (h : s ≠ t) : (s.toList == t.toList) = false ∧ (s.toList != t.toList) = true := by
  have : s.toList ≠ t.toList := by
    rw [Lib.toList_data, Lib.toList_data]
    intro e
    exact h (by cases s; cases t; simp at e; rw [e])
  exact ⟨by simpa using this, by simpa using this⟩

end Go.Proofs.YtfpidkcdgebnpaaGreatDoor


/-
  The kinds' names, as both packages list them; a slice of strings in a block of its own; 'append' of a string in a region that draws.
-/
namespace Go.Proofs.YtfpidkcdgebnpaaGreatDoor
open Go.RowKit Go.Shelf

theorem rdT_block {w : World} {b : Nat} {ss : List ByteArray} {z : Nat × Nat} (h : w.heap[b]? = some (.cells (ss.map Value.string).toArray 9 z)) (hs : ss.length ≤ 140737488351232) {n : Nat} (hn : n = ss.length) : RdT w (.slice (some ⟨b, 0, none⟩) n n) ss := by
  subst hn
  refine ⟨⟨_, _, by rw [List.length_map], by rw [List.length_map]; omega, (by intro h; cases h), fun _ => ⟨_, _, rfl⟩⟩, fun i hi j u hu => ?_, fun x hx => ?_, by rw [List.length_map]; exact hs⟩
  · rw [List.length_map] at hi
    rw [getD_map strV ss i hi default] at hu
    obtain rfl : j = 0 := by
      have := (List.getElem?_eq_some_iff.1 hu).1
      simpa [strV] using this
    have hu : Value.string (ss.getD i default) = u := by simpa [strV] using hu
    rw [adr_lit, cell_of_row _ _ _ _ _ z h, List.getElem?_toArray, List.getElem?_map]
    show (ss[0 + (i * 1 + 0)]?).map Value.string = some u
    rw [show 0 + (i * 1 + 0) = i from by omega, List.getElem?_eq_getElem hi, ← hu]
    simp [List.getD, hi]
  · obtain ⟨c, _, rfl⟩ := List.mem_map.1 hx
    rfl

/-- The kinds' names. -/
def kindB : List ByteArray := [⟨#[105, 110, 116]⟩, ⟨#[117, 105, 110, 116]⟩, ⟨#[98, 111, 111, 108]⟩, ⟨#[98, 121, 116, 101, 115]⟩, ⟨#[116, 101, 120, 116]⟩, ⟨#[102, 108, 111, 97, 116]⟩]
theorem kindB_names : kindB.map (·.data.toList) = kindNames := rfl
theorem kindB_rd {q : Nat} (h : q < 6) : RdS (kindB.getD q default) (kindNames.getD q []) ∧ (kindNames.getD q []).length ≤ 5 := by
  have : ∀ q : Fin 6, (kindB.getD q.val default) = ⟨(kindNames.getD q.val []).toArray⟩ ∧ (kindNames.getD q.val []).length ≤ 5 := by decide
  obtain ⟨h1, h2⟩ := this ⟨q, h⟩
  exact ⟨⟨h1, by dsimp only at h2; omega⟩, h2⟩

/-- 'append(s, a string)' in a region that draws. -/
theorem stepT_append {ops : Array Oper} {a : Act} {w : World} {K : Act → World → Prop} {Q : Exit → Act → World → Prop} {E : Prop} {dst : Option Tmp} {ty : TypeId} {pos : String} {aft : Array Edge} {s x : Operand}
    (base : Nat) (sv : Value) (ss : List ByteArray) (hs : a.eval s = sv) (ho : OwnT w base sv ss) (ad : Addr) (c : ByteArray) (hx : a.eval x = .slice (some ad) 1 1)
    (hc : ∀ j z, (strV c)[j]? = some z → w.cell? (ad.add j) = some z) (hn : (ss.length + 1) * 16 ≤ 140737488355328) (hbase : base ≤ w.heap.size)
    (h : ∀ v' w', OwnT w' base v' (ss ++ [c]) → w.grownBy w' sv.ownBlock → K (a.put dst v') w') :
    if Region.wanted ⟨dst, .call ⟨.builtin .append, #[s, x], #[91, 91]⟩, ty, pos, aft, none⟩ (yielded ops a.tmps) = true then Oper.wp Tryz.prog ⟨dst, .call ⟨.builtin .append, #[s, x], #[91, 91]⟩, ty, pos, aft, none⟩ a w K Q else E := by
  rw [if_pos (by simp [Region.wanted])]
  obtain ⟨i0, hi, hz0, hz1, hz2⟩ := info_parts strOk.info
  have ho' : OwnG strE w base sv (ss.map strV) := ho
  refine wp_append_own w s x 91 rfl base 9 i0 (.string ⟨#[]⟩) 1 16 Tryz.underlying91 hi hz0 hz1 hz2 rfl (by decide) sv (ss.map strV).length (ss.map strV).flatten hs ho'.1 ad 1 1 (strV c) hx rfl hc (by intro z hz; simp [strV] at hz; rw [hz]; rfl) (by rw [List.length_map]; unfold maxLen; omega) (by rw [List.length_map]; exact hn) hbase ?_
  intro v' w' h1 h2 _
  refine h v' w' ⟨?_, ?_, ?_⟩ h2
  · show w'.ownsRow base 9 1 v' _ _
    rw [List.map_append, List.length_append, List.flatten_append]; simpa using h1
  · intro y hy; obtain ⟨c, _, rfl⟩ := List.mem_map.1 hy; rfl
  · intro y hy; obtain ⟨c, _, rfl⟩ := List.mem_map.1 hy
    intro z hz; simp [strV] at hz; rw [hz]; rfl

end Go.Proofs.YtfpidkcdgebnpaaGreatDoor


/-
  Texts between a byte; what is parsed of a text (no program in it).
-/
namespace Go.Proofs.YtfpidkcdgebnpaaGreatDoor
open Go.RowKit Go.Shelf

def consHead (x : UInt8) : List (List UInt8) → List (List UInt8)
  | [] => [[x]]
  | h :: t => (x :: h) :: t
/-- The texts between a byte. -/
def cutL (c : UInt8) : List UInt8 → List (List UInt8)
  | [] => [[]]
  | x :: r => if x = c then [] :: cutL c r else consHead x (cutL c r)

theorem cutL_pos (c : UInt8) : ∀ l, 0 < (cutL c l).length
  | [] => by simp [cutL]
  | x :: r => by
    rw [cutL]
    split
    · simp
    · cases cutL c r <;> simp [consHead]
theorem cutL_le (c : UInt8) : ∀ l, (cutL c l).length ≤ l.length + 1
  | [] => by simp [cutL]
  | x :: r => by
    have ih := cutL_le c r
    rw [cutL]
    split
    · simp; omega
    · cases h : cutL c r with
      | nil => simp [consHead]
      | cons a t => rw [h] at ih; simp [consHead] at ih ⊢; omega
theorem cutL_part (c : UInt8) : ∀ l, ∀ p ∈ cutL c l, p.length ≤ l.length
  | [], p, hp => by simp [cutL] at hp; simp [hp]
  | x :: r, p, hp => by
    have ih := cutL_part c r
    rw [cutL] at hp
    split at hp
    · rcases List.mem_cons.1 hp with rfl | hp
      · simp
      · have := ih p hp; simp; omega
    · cases h : cutL c r with
      | nil => rw [h] at hp; simp [consHead] at hp; simp [hp]
      | cons a t =>
        rw [h] at hp ih
        rcases List.mem_cons.1 hp with rfl | hp
        · have := ih a (by simp); simp; omega
        · have := ih p (by simp [hp]); simp; omega

theorem index_one (c x : UInt8) (r : List UInt8) : Lib.index (x :: r) [c] = if x = c then 0 else if Lib.index r [c] = -1 then -1 else Lib.index r [c] + 1 := by
  have e : List.isPrefixOf [c] (x :: r) = (c == x) := by simp [List.isPrefixOf]
  rw [Lib.index, e]
  by_cases h : x = c
  · rw [if_pos h, if_pos (by simp [h])]
  · rw [if_neg h, if_neg (by simp; exact fun e => h e.symm)]
    by_cases h2 : Lib.index r [c] = -1
    · rw [if_pos h2, if_pos (by simp [h2])]
    · rw [if_neg h2, if_neg (by simpa using h2)]

theorem splitK_cut (c : UInt8) : ∀ (s : List UInt8) (k : Nat), Lib.count s [c] = k → Lib.splitK [c] 0 k s = cutL c s
  | [], k, h => by
    rw [Lib.count_one] at h
    simp at h
    subst h
    rfl
  | x :: r, k, h => by
    rw [Lib.count_one] at h
    by_cases hx : x = c
    · subst hx
      rw [List.count_cons_self] at h
      subst h
      have ih := splitK_cut x r (r.count x) (Lib.count_one x r)
      rw [Lib.splitK, index_one, if_pos rfl, cutL, if_pos rfl]
      simp [ih]
    · rw [List.count_cons_of_ne hx] at h
      have ih := splitK_cut c r k (by rw [Lib.count_one]; exact h)
      rw [cutL, if_neg hx, ← ih]
      cases k with
      | zero => simp [Lib.splitK, consHead]
      | succ k =>
        rw [Lib.splitK, Lib.splitK, index_one, if_neg hx]
        by_cases hi : Lib.index r [c] = -1
        · simp [hi, consHead]
        · have h0 := Lib.index_ge r [c]
          rw [if_neg hi]
          have e1 : ¬ ((Lib.index r [c] + 1 == -1) = true) := by simp; omega
          have e2 : ¬ ((Lib.index r [c] == -1) = true) := by simpa using hi
          rw [if_neg e1, if_neg e2, consHead]
          have e3 : (Lib.index r [c] + 1).toNat = (Lib.index r [c]).toNat + 1 := by omega
          rw [e3]
          simp

/-- What Split answers. -/
theorem split_list (c : UInt8) (s : ByteArray) : (Lib.splitB ⟨#[c]⟩ 0 (Lib.countB s ⟨#[c]⟩) s).map (·.data.toList) = cutL c s.data.toList := by
  rw [Lib.splitB_data]
  exact splitK_cut c _ _ rfl

theorem cutL_none {c : UInt8} : ∀ {l : List UInt8}, c ∉ l → cutL c l = [l]
  | [], _ => rfl
  | x :: r, h => by
    rw [cutL, if_neg (fun e => h (by simp [e])), cutL_none (fun hh => h (by simp [hh]))]
    rfl
theorem cutL_some {c : UInt8} : ∀ {l : List UInt8}, c ∈ l → 2 ≤ (cutL c l).length
  | [], h => by simp at h
  | x :: r, h => by
    rw [cutL]
    by_cases hx : x = c
    · rw [if_pos hx]
      have := cutL_pos c r
      simp; omega
    · rw [if_neg hx]
      have hr : c ∈ r := by
        rcases List.mem_cons.1 h with e | e
        · exact absurd e.symm hx
        · exact e
      have ih := cutL_some hr
      cases hc : cutL c r with
      | nil => rw [hc] at ih; simp at ih
      | cons a t => rw [hc] at ih; simp [consHead] at ih ⊢; exact ih
theorem cut_index {c : UInt8} : ∀ (l : List UInt8), (Lib.index l [c] = -1 ∧ c ∉ l) ∨ (0 ≤ Lib.index l [c] ∧ cutL c l = l.take (Lib.index l [c]).toNat :: cutL c (l.drop ((Lib.index l [c]).toNat + 1)))
  | [] => .inl ⟨rfl, by simp⟩
  | x :: r => by
    rw [index_one]
    by_cases hx : x = c
    · rw [if_pos hx]
      refine .inr ⟨by omega, ?_⟩
      rw [cutL, if_pos hx]
      simp
    · rw [if_neg hx]
      rcases cut_index (c := c) r with ⟨h1, h2⟩ | ⟨h1, h2⟩
      · rw [if_pos h1]
        exact .inl ⟨rfl, fun h => by rcases List.mem_cons.1 h with e | e; exact hx e.symm; exact h2 e⟩
      · rw [if_neg (by omega)]
        refine .inr ⟨by omega, ?_⟩
        rw [cutL, if_neg hx, h2, consHead]
        have e3 : (Lib.index r [c] + 1).toNat = (Lib.index r [c]).toNat + 1 := by omega
        rw [e3]
        simp

/-- The number of a kind's name, or -1. -/
def kindI (k : List UInt8) : Int := Lib.idxOfS kindB ⟨k.toArray⟩
theorem kindI_eq (k : List UInt8) : kindI k = if k = [105, 110, 116] then 0 else if k = [117, 105, 110, 116] then 1 else if k = [98, 111, 111, 108] then 2 else if k = [98, 121, 116, 101, 115] then 3 else if k = [116, 101, 120, 116] then 4 else if k = [102, 108, 111, 97, 116] then 5 else -1 := by
  have h : ∀ (a k : List UInt8), ((⟨a.toArray⟩ : ByteArray) = ⟨k.toArray⟩) = (k = a) := fun a k => by
    apply propext
    constructor
    · intro e; injection e with e; simpa using (congrArg Array.toList e).symm
    · rintro rfl; rfl
  unfold kindI Lib.idxOfS kindB
  simp only [Lib.idxFromS]
  rw [show (⟨#[105, 110, 116]⟩ : ByteArray) = ⟨[105, 110, 116].toArray⟩ from rfl, show (⟨#[117, 105, 110, 116]⟩ : ByteArray) = ⟨[117, 105, 110, 116].toArray⟩ from rfl, show (⟨#[98, 111, 111, 108]⟩ : ByteArray) = ⟨[98, 111, 111, 108].toArray⟩ from rfl,
    show (⟨#[98, 121, 116, 101, 115]⟩ : ByteArray) = ⟨[98, 121, 116, 101, 115].toArray⟩ from rfl, show (⟨#[116, 101, 120, 116]⟩ : ByteArray) = ⟨[116, 101, 120, 116].toArray⟩ from rfl, show (⟨#[102, 108, 111, 97, 116]⟩ : ByteArray) = ⟨[102, 108, 111, 97, 116].toArray⟩ from rfl]
  simp only [h]
  rfl
theorem kindI_bounds (k : List UInt8) : -1 ≤ kindI k ∧ kindI k ≤ 5 := by
  rw [kindI_eq]
  repeat' split
  all_goals omega
theorem kindI_name {k : List UInt8} (h : 0 ≤ kindI k) : kindNames.getD (kindI k).toNat [] = k := by
  rw [kindI_eq] at h ⊢
  by_cases h0 : k = [105, 110, 116]
  · rw [if_pos h0, h0]; rfl
  rw [if_neg h0] at h ⊢
  by_cases h1 : k = [117, 105, 110, 116]
  · rw [if_pos h1, h1]; rfl
  rw [if_neg h1] at h ⊢
  by_cases h2 : k = [98, 111, 111, 108]
  · rw [if_pos h2, h2]; rfl
  rw [if_neg h2] at h ⊢
  by_cases h3 : k = [98, 121, 116, 101, 115]
  · rw [if_pos h3, h3]; rfl
  rw [if_neg h3] at h ⊢
  by_cases h4 : k = [116, 101, 120, 116]
  · rw [if_pos h4, h4]; rfl
  rw [if_neg h4] at h ⊢
  by_cases h5 : k = [102, 108, 111, 97, 116]
  · rw [if_pos h5, h5]; rfl
  · rw [if_neg h5] at h; omega
theorem kindI_of {q : Nat} (h : q < 6) : kindI (kindNames.getD q []) = q := by
  obtain rfl | rfl | rfl | rfl | rfl | rfl : q = 0 ∨ q = 1 ∨ q = 2 ∨ q = 3 ∨ q = 4 ∨ q = 5 := by omega
  all_goals (rw [kindI_eq]; rfl)
theorem kindNames_letters {q : Nat} (h : q < 6) : ∀ c ∈ kindNames.getD q [], 97 ≤ c.toNat ∧ c.toNat ≤ 122 := by
  have : ∀ q : Fin 6, ∀ c ∈ kindNames.getD q.val [], 97 ≤ c.toNat ∧ c.toNat ≤ 122 := by decide
  exact this ⟨q, h⟩
theorem kindI_colon {k : List UInt8} (h : 58 ∈ k) : kindI k = -1 := by
  by_cases h0 : 0 ≤ kindI k
  · have hb := kindI_bounds k
    have hn := kindI_name h0
    have hl := kindNames_letters (q := (kindI k).toNat) (by omega) 58 (by rw [hn]; exact h)
    exact absurd hl (by decide)
  · have := (kindI_bounds k).1; omega

/-- A column of its text. -/
def prPart (p : List UInt8) : Option Col := match cutL 58 p with
  | [n, k] => if 0 ≤ kindI k then some (n, kindI k) else none
  | _ => none
theorem prPart_cut (p : List UInt8) : prPart p = if kindI (Lib.cut p [58]).2.1 < 0 then none else some ((Lib.cut p [58]).1, kindI (Lib.cut p [58]).2.1) := by
  unfold Lib.cut prPart
  rcases cut_index (c := 58) p with ⟨h1, h2⟩ | ⟨h1, h2⟩
  · rw [cutL_none h2, if_neg (show ¬ (0 ≤ Lib.index p [58]) by omega), if_pos (show kindI [] < 0 by rw [kindI_eq]; decide)]
  · rw [if_pos h1, h2]
    dsimp only
    rw [show [(58 : UInt8)].length = 1 from rfl]
    by_cases hc : (58 : UInt8) ∈ p.drop ((Lib.index p [58]).toNat + 1)
    · have h3 := cutL_some hc
      rw [if_pos (by rw [kindI_colon hc]; decide)]
      cases hd : cutL 58 (p.drop ((Lib.index p [58]).toNat + 1)) with
      | nil => rfl
      | cons a t =>
        cases t with
        | nil => exact absurd h3 (by rw [hd]; simp)
        | cons b t => rfl
    · rw [cutL_none hc]
      dsimp only
      by_cases h0 : 0 ≤ kindI (p.drop ((Lib.index p [58]).toNat + 1))
      · rw [if_pos h0, if_neg (by omega)]
      · rw [if_neg h0, if_pos (by omega)]

def prParts : List (List UInt8) → Option (List Col)
  | [] => some []
  | p :: r => match prPart p with
    | none => none
    | some c => (prParts r).map (c :: ·)
theorem prParts_app : ∀ (a b : List (List UInt8)), prParts (a ++ b) = (prParts a).bind fun x => (prParts b).map (x ++ ·)
  | [], b => by simp [prParts]
  | p :: r, b => by
    rw [List.cons_append, prParts, prParts]
    cases prPart p with
    | none => rfl
    | some c =>
      dsimp only
      rw [prParts_app r b]
      cases prParts r with
      | none => rfl
      | some x =>
        simp only [Option.bind_some, Option.map_some]
        cases prParts b <;> rfl
theorem prParts_one (p : List UInt8) : prParts [p] = (prPart p).map fun c => [c] := by
  rw [prParts]
  cases prPart p <;> rfl
theorem prParts_step {ps : List (List UInt8)} {k : Nat} {cs : List Col} (hk : k < ps.length) (h : prParts (ps.take k) = some cs) :
    (∀ c, prPart (ps.getD k []) = some c → prParts (ps.take (k + 1)) = some (cs ++ [c])) ∧ (prPart (ps.getD k []) = none → prParts ps = none) := by
  constructor
  · intro c hc
    rw [take_succD hk [], prParts_app, h, prParts_one, hc]; rfl
  · intro hc
    have e : ps = ps.take (k + 1) ++ ps.drop (k + 1) := (List.take_append_drop _ _).symm
    rw [e, prParts_app, take_succD hk [], prParts_app, h, prParts_one, hc]; rfl
/-- What is parsed of a text: the schema, and why there is none. -/
def prS (l : List UInt8) : List Col × Nat := match prParts (cutL 44 l) with
  | none => ([], 6)
  | some cs => if errS cs = 0 then (cs, 0) else ([], errS cs)

end Go.Proofs.YtfpidkcdgebnpaaGreatDoor


/-
  The document's own answers for layer 5: the texts between a byte.
-/
namespace Go.Proofs.YtfpidkcdgebnpaaGreatDoor
open Go.RowKit Go.Shelf

theorem cutL_snoc (c x : UInt8) : ∀ l : List UInt8, cutL c (l ++ [x]) = if x = c then cutL c l ++ [[]] else (cutL c l).set ((cutL c l).length - 1) ((cutL c l).getD ((cutL c l).length - 1) [] ++ [x])
  | [] => by
    rw [List.nil_append, cutL, cutL]
    by_cases hx : x = c
    · rw [if_pos hx, if_pos hx]; rfl
    · rw [if_neg hx, if_neg hx]; rfl
  | y :: r => by
    have ih := cutL_snoc c x r
    have hp := cutL_pos c r
    rw [List.cons_append, cutL, ih]
    rw [show cutL c (y :: r) = if y = c then [] :: cutL c r else consHead y (cutL c r) from by rw [cutL]]
    by_cases hy : y = c
    · rw [if_pos hy, if_pos hy]
      by_cases hx : x = c
      · rw [if_pos hx, if_pos hx]; rfl
      · rw [if_neg hx, if_neg hx]
        obtain ⟨n, hn⟩ : ∃ n, (cutL c r).length = n + 1 := ⟨(cutL c r).length - 1, by omega⟩
        rw [List.length_cons, hn]
        simp
    · rw [if_neg hy, if_neg hy]
      cases hc : cutL c r with
      | nil => rw [hc] at hp; simp at hp
      | cons h t =>
        by_cases hx : x = c
        · rw [if_pos hx, if_pos hx]; rfl
        · rw [if_neg hx, if_neg hx]
          cases t with
          | nil => simp [consHead]
          | cons a b => simp [consHead]

theorem OwnT.set {w : World} {base : Nat} {v : Value} {ss : List ByteArray} (h : OwnT w base v ss) {i : Nat} (hi : i < ss.length) (s : ByteArray) :
    OwnT (w.setCell (adr v i) (.string s)) base v (ss.set i s) ∧ w.frozen? (adr v i) = false ∧ base ≤ (adr v i).block := by
  obtain ⟨⟨h0, h2⟩, h3⟩ := h
  rw [List.length_map] at h2 h0
  rcases h2 with ⟨rfl, hn⟩ | ⟨g, cap, cur, rfl, hbg, hg, hn, hm, hs, ht⟩
  · exact absurd hi (by omega)
  · have e : adr (.slice (some ⟨g, 0, none⟩) ss.length cap) i = ⟨g, i, none⟩ := by rw [adr_lit, Nat.zero_add]
    rw [e]
    have hfl : ∀ ss : List ByteArray, (ss.map strV).flatten = ss.map Value.string := fun ss => by
      induction ss with
      | nil => rfl
      | cons a r ih => rw [List.map_cons, List.flatten_cons, ih]; rfl
    have ht' : cur.toList.take (ss.length * 1) = ss.map Value.string := by rw [← hfl]; exact ht
    refine ⟨⟨⟨by rw [hfl]; show _ = _ * 1; simp, .inr ⟨g, cap, _, by rw [List.length_map, List.length_set], hbg, block_setCell hg _, by rw [List.length_map, List.length_set]; exact hn, hm, by simpa using hs, ?_⟩⟩, ?_, ?_⟩, frozen_of_row _ _ _ _ _ hg, hbg⟩
    · rw [hfl, List.length_map, List.length_set, Array.toList_setIfInBounds, List.take_set]
      show (cur.toList.take (ss.length * 1)).set i _ = _
      rw [ht', List.map_set]
    · intro y hy; obtain ⟨c, _, rfl⟩ := List.mem_map.1 hy; rfl
    · intro y hy; obtain ⟨c, _, rfl⟩ := List.mem_map.1 hy
      intro z hz; simp [strV] at hz; rw [hz]; rfl

/-- A string of the call's own: where it lies, and that it may be turned. -/
theorem OwnT.at {w : World} {base : Nat} {v : Value} {ss : List ByteArray} (h : OwnT w base v ss) {i : Nat} (hi : i < ss.length) (hs : ss.length ≤ 140737488351232) :
    ∃ b o, (∀ u, (Instr.indexAt 91 v (.int .i64 (i : Int))).run Tryz.prog u = .ok (.pointer (some ⟨b, o, none⟩)) u) ∧ w.cell? ⟨b, o, none⟩ = some (.string (ss.getD i default)) ∧ w.frozen? ⟨b, o, none⟩ = false ∧ base ≤ b ∧
      ∀ s, OwnT (w.setCell ⟨b, o, none⟩ (.string s)) base v (ss.set i s) := by
  have hrd := h.rd hs
  have hi' : i < (ss.map strV).length := by simpa using hi
  have hx := RdG.idx hrd strOk i hi'
  have hc := RdG.cells hrd i hi' 0 (.string (ss.getD i default)) (by rw [getD_map strV ss i hi default]; rfl)
  obtain ⟨ao, cap, hv, _, _, hp⟩ := RdG.shape hrd
  obtain ⟨b, o, rfl⟩ := hp (by omega)
  have e : adr v (i * strE.n) = ⟨b, o + i, none⟩ := by rw [hv, adr_lit]; show (⟨b, o + i * 1, none⟩ : Addr) = _; rw [Nat.mul_one]
  have e2 : adr v i = ⟨b, o + i, none⟩ := by rw [hv, adr_lit]
  rw [e] at hx
  rw [Nat.add_zero, e] at hc
  have hset := fun s => h.set hi s
  rw [e2] at hset
  exact ⟨b, o + i, hx, hc, (hset ⟨#[]⟩).2.1, (hset ⟨#[]⟩).2.2, fun s => (hset s).1⟩

/-- Strings of lists of bytes. -/
def strL (ls : List (List UInt8)) : List ByteArray := ls.map fun l => ⟨l.toArray⟩
theorem strL_data (ls : List (List UInt8)) : (strL ls).map (·.data.toList) = ls := by
  unfold strL
  rw [List.map_map]
  have : ((fun x : ByteArray => x.data.toList) ∘ fun l : List UInt8 => (⟨l.toArray⟩ : ByteArray)) = id := by funext l; rfl
  rw [this, List.map_id]
theorem strL_length (ls : List (List UInt8)) : (strL ls).length = ls.length := by simp [strL]
theorem ext_one {s : ByteArray} {l : List UInt8} (h : RdS s l) {k : Nat} (hk : k < l.length) : s.extract k (k + 1) = ⟨#[l.getD k 0]⟩ := by
  rw [h.eq]
  apply ByteArray.ext
  apply Array.ext
  · simp; omega
  · intro i h1 h2
    have : i = 0 := by simpa using h2
    subst this
    simp [List.getD, hk]

theorem slice_one {s : ByteArray} {l : List UInt8} (h : RdS s l) {k : Nat} (hk : k < l.length) : ∀ u, (Instr.slice 9 (.string s) (some (.int .i64 (k : Int))) (some (.int .i64 ((k : Int) + 1))) none).run Tryz.prog u = .ok (.string ⟨#[l.getD k 0]⟩) u := by
  intro u
  have hz : s.size = l.length := by rw [h.eq]; simp [ByteArray.size]
  have e := run_slice_string (P := Tryz.prog) (w := u) 9 s .i64 .i64 (k : Int) ((k : Int) + 1) Tryz.underlying9 (by omega) (by omega) (by omega)
  rw [show ((k : Int) + 1).toNat = k + 1 from by omega, show ((k : Nat) : Int).toNat = k from by omega, ext_one h hk] at e
  exact e
theorem only_set (w : World) (b o : Nat) (v : Value) : Only (fun j => j = b) w (w.setCell ⟨b, o, none⟩ v) := Only.setCell (S := fun j => j = b) (Only.refl (fun j => j = b) w) (p := ⟨b, o, none⟩) rfl v
theorem way_only5 (S : Nat → Prop) : OrdR.Way (Only S) := ⟨fun w => Only.refl S w, fun _ _ _ h k => h.trans k⟩
instance inst_only5 (S : Nat → Prop) (w : World) : Nonempty (OrdR.GW (Only S) w) := ⟨⟨w, Only.refl S w⟩⟩
theorem w64_in {x : Int} (h : -9223372036854775808 ≤ x ∧ x ≤ 9223372036854775807) : wrap64 x = x := by unfold wrap64; omega
theorem w64_pred (n : Nat) (h : -9223372036854775808 ≤ (n : Int) ∧ (n : Int) ≤ 9223372036854775807) : IntKind.i64.wrap ((n : Int) + 1 - 1) = (n : Int) := by
  rw [show (n : Int) + 1 - 1 = n from by omega]; exact IntWalk.i64_in _ h

set_option maxHeartbeats 4000000 in
theorem ref_Cut05 (c : UInt8) (s : ByteArray) (l : List UInt8) (w : World) (h : RdS s l) (hl : l.length ≤ 100000) :
    Calls Tryz.prog 89 #[.string s, .int .u8 (c.toNat : Int)] w fun e w' => ∃ v, e = .returned v ∧ OwnT w' w.heap.size v (strL (cutL c l)) ∧ Below w.heap.size w w' := by
  have hlen := h.len
  have hidx := h.idx
  have HS := Lib.hid h
  have hO0 : OwnT (w.alloc (.cells #[.string ⟨#[]⟩] 9)) w.heap.size (.slice (some ⟨w.heap.size, 0, none⟩) 1 1) [⟨#[]⟩] :=
    ⟨⟨rfl, .inr ⟨w.heap.size, 1, _, rfl, Nat.le_refl _, heap_alloc_new w _, by decide, by decide, rfl, rfl⟩⟩, by intro y hy; simp [strV] at hy; rw [hy]; rfl, by intro y hy z hz; simp [strV] at hy; rw [hy] at hz; simp at hz; rw [hz]; rfl⟩
  have HO := Lib.hid hO0
  have HB := Lib.hid ((Below.refl w.heap.size w).alloc (Nat.le_refl _) (.cells #[.string ⟨#[]⟩] 9))
  have hc256 := c.toNat_lt
  clear h hO0
  go_enter Tryz.func89, Tryz.ntmps89
  go_wp2
  go_loopw [5, 6] (fun a i wr => ∃ k : Nat, k ≤ l.length ∧ i = .int .i64 k ∧ Hid (OwnT wr w.heap.size a (strL (cutL c (l.take k)))) ∧ Hid (Below w.heap.size w wr)) (fun _ i _ => l.length - (intOf i).toNat)
  case atStart => exact ⟨0, by omega, rfl, HO, HB⟩
  case round =>
    clear HO HB
    obtain ⟨k, hk, rfl, HO, HB⟩ := hrel
    by_cases hlt : k < l.length
    · have hx := hidx k hlt
      obtain ⟨d, hd⟩ : ∃ d, d = l.getD k 0 := ⟨_, rfl⟩
      have hd9 : at8 l k = (d.toNat : Int) := by rw [hd]; rfl
      rw [hd9] at hx
      have hsn := cutL_snoc c d (l.take k)
      have htk : l.take (k + 1) = l.take k ++ [d] := by rw [take_succD hlt 0, hd]
      rw [← htk] at hsn
      have hcp := cutL_pos c (l.take k)
      have hcle := cutL_le c (l.take k)
      have htl : (l.take k).length = k := by simp; omega
      rw [htl] at hcle
      obtain ⟨L, hL⟩ : ∃ L, L = cutL c (l.take k) := ⟨_, rfl⟩
      rw [← hL] at hsn hcp hcle HO
      have HSN := Lib.hid hsn
      have hwb := HB.out.size
      have hdn := d.toNat_lt
      by_cases hdc : d = c
      · have q : ((d.toNat : Int) == (c.toNat : Int)) = true := by rw [hdc]; simp
        have q2 : (d.toNat == c.toNat) = true := by rw [hdc]; simp
        have HSN2 := Lib.hid (show strL (cutL c (l.take (k + 1))) = strL L ++ [⟨#[]⟩] from by rw [HSN.out, if_pos hdc]; unfold strL; rw [List.map_append]; rfl)
        have HO1 := Lib.hid (HO.out.alloc (.cells #[.string ⟨#[]⟩] 9))
        have HB1 := Lib.hid (HB.out.alloc HB.out.size (.cells #[.string ⟨#[]⟩] 9))
        have hll : (strL L).length = L.length := strL_length L
        clear hd hd9 hsn htk htl hL hdc HSN hidx
        go_wp2_with (with_reducible refine wplT_append w.heap.size _ ?hs HO1.out ⟨wr.heap.size, 0, none⟩ ⟨#[]⟩ ?hx (one_str wr ⟨#[]⟩) ?hn ?hbase w.heap.size w HB1.out (Nat.le_refl _) ?_)
        case hs => rfl
        case hx => rfl
        case hn => rw [hll]; omega
        case hbase => simp; omega
        intro v5 w5 hO5 hB5 hg5
        have HO5 := Lib.hid (show OwnT w5 w.heap.size v5 (strL (cutL c (l.take (k + 1)))) from by rw [HSN2.out]; exact hO5)
        have HB5 := Lib.hid hB5
        clear hO5 hB5 hg5 hll
        go_wp2
        go_roundw
        case rel => exact ⟨k + 1, by omega, by go_num, HO5, HB5⟩
        case measure => simp [intOf]; omega
      · have q : ((d.toNat : Int) == (c.toNat : Int)) = false := by
          rw [beq_eq_false_iff_ne]
          intro e
          exact hdc (UInt8.toNat_inj.mp (by omega))
        obtain ⟨n, hn⟩ : ∃ n, L.length = n + 1 := ⟨L.length - 1, by omega⟩
        have hll : (strL L).length = n + 1 := by rw [strL_length, hn]
        have hrd := HO.out.rd (by omega)
        have hle := hrd.len
        rw [hll, show ((n + 1 : Nat) : Int) = (n : Int) + 1 from by omega] at hle
        obtain ⟨b, o, hi, hcl, hfz, hbb, hset⟩ := HO.out.at (i := n) (by omega) (by omega)
        have hget : (strL L).getD n default = ⟨(L.getD n []).toArray⟩ := by
          unfold strL; simp [List.getD, hn]
        rw [hget] at hcl
        obtain ⟨lst, hlst⟩ : ∃ lst : ByteArray, lst = ⟨(L.getD n []).toArray⟩ := ⟨_, rfl⟩
        rw [← hlst] at hcl
        have hext := slice_one HS.out hlt
        rw [← hd] at hext
        obtain ⟨db, hdb⟩ : ∃ db : ByteArray, db = ⟨#[d]⟩ := ⟨_, rfl⟩
        rw [← hdb] at hext
        have hlz : lst.size ≤ 100000 := by
          have h1 : lst.size = (L.getD n []).length := by rw [hlst]; simp [ByteArray.size]
          have h2 : L.getD n [] ∈ cutL c (l.take k) := by
            rw [← hL, show L.getD n [] = L[n]'(by omega) from by simp [List.getD, hn]]
            exact List.getElem_mem _
          have h3 := cutL_part c _ _ h2
          rw [htl] at h3
          omega
        have hdz : db.size = 1 := by rw [hdb]; rfl
        have p1 : ¬ (9223372036854775807 < lst.size + db.size) := by omega
        have p2 : ¬ (9223372036854775807 < lst.size + 1) := by omega
        have hsz : s.size = l.length := by rw [HS.out.eq]; simp [ByteArray.size]
        have hk0 : (0 : Int) ≤ (k : Int) := by omega
        have hk1 : (k : Int) ≤ (k : Int) + 1 := by omega
        have hk2 : (k : Int) + 1 ≤ (s.size : Int) := by omega
        have b1 : -9223372036854775808 ≤ (n : Int) ∧ (n : Int) ≤ 9223372036854775807 := by omega
        have b2 : -9223372036854775808 ≤ (k : Int) + 1 ∧ (k : Int) + 1 ≤ 9223372036854775807 := by omega
        have e3 : ((k : Int) + 1).toNat = k + 1 := by omega
        have HSN2 := Lib.hid (show strL (cutL c (l.take (k + 1))) = (strL L).set n (lst ++ db) from by
          rw [HSN.out, if_neg hdc, hn, Nat.add_sub_cancel]
          unfold strL
          rw [List.map_set]
          congr 1
          rw [hlst, hdb]
          apply ByteArray.ext
          simp)
        have w1 := w64_pred n b1
        have w0 := IntWalk.i64_in _ b1
        have w00 := w64_in b1
        have w22 := w64_in b2
        have w2 := IntWalk.i64_in _ b2
        clear b1 b2
        have HSET := Lib.hid hset
        clear hd hd9 hsn htk htl hL hdc HSN hidx hn hll hrd hget hlst hdb hset
        go_wp2
        refine OrdR.wp_region_ord (way_only5 (fun j => j = b)) [(0, false), (1, false), (2, false), (3, false), (4, false), (5, false), (6, false), (7, false), (8, false), (10, false), (11, false), (12, false), (13, false), (14, false), (9, true), (15, false), (16, false), (17, true)] (by kernel_rfl) rfl (by kernel_rfl) (by kernel_rfl) (fun _ _ _ d _ h => by cases d <;> exact h) ?_
        refine OrdR.ord_still rfl rfl (by kernel_rfl) (fun K hK => ?_)
        go_big_quiet_op
        refine hK _ ?_; clear hK K
        refine OrdR.ord_still rfl rfl (by kernel_rfl) (fun K hK => ?_)
        go_big_quiet_op
        refine hK _ ?_; clear hK K
        refine OrdR.ord_still rfl rfl (by kernel_rfl) (fun K hK => ?_)
        go_big_quiet_op
        refine hK _ ?_; clear hK K
        refine OrdR.ord_still rfl rfl (by kernel_rfl) (fun K hK => ?_)
        go_big_quiet_op
        refine hK _ ?_; clear hK K
        refine OrdR.ord_still rfl rfl (by kernel_rfl) (fun K hK => ?_)
        go_big_quiet_op
        refine hK _ ?_; clear hK K
        refine OrdR.ord_still rfl rfl (by kernel_rfl) (fun K hK => ?_)
        go_big_quiet_op
        refine hK _ ?_; clear hK K
        refine OrdR.ord_still rfl rfl (by kernel_rfl) (fun K hK => ?_)
        go_big_quiet_op
        refine hK _ ?_; clear hK K
        refine OrdR.ord_still rfl rfl (by kernel_rfl) (fun K hK => ?_)
        go_big_quiet_op
        refine hK _ ?_; clear hK K
        refine OrdR.ord_still rfl rfl (by kernel_rfl) (fun K hK => ?_)
        go_big_quiet_op
        refine hK _ ?_; clear hK K
        refine OrdR.ord_still rfl rfl (by kernel_rfl) (fun K hK => ?_)
        go_big_quiet_op
        refine hK _ ?_; clear hK K
        refine OrdR.ord_still rfl rfl (by kernel_rfl) (fun K hK => ?_)
        go_big_quiet_op
        refine hK _ ?_; clear hK K
        refine OrdR.ord_still rfl rfl (by kernel_rfl) (fun K hK => ?_)
        go_big_quiet_op
        refine hK _ ?_; clear hK K
        refine OrdR.ord_still rfl rfl (by kernel_rfl) (fun K hK => ?_)
        go_big_quiet_op
        refine hK _ ?_; clear hK K
        refine OrdR.ord_still rfl rfl (by kernel_rfl) (fun K hK => ?_)
        go_big_quiet_op
        refine hK _ ?_; clear hK K
        refine OrdR.ord_loud rfl (by kernel_rfl) (fun K hK => ?_)
        go_big_op
        refine hK _ _ (Only.refl _ _) ?_; clear hK K
        refine OrdR.ord_still rfl rfl (by kernel_rfl) (fun K hK => ?_)
        go_big_quiet_op
        refine hK _ ?_; clear hK K
        refine OrdR.ord_still rfl rfl (by kernel_rfl) (fun K hK => ?_)
        go_big_quiet_op
        refine hK _ ?_; clear hK K
        refine OrdR.ord_loud rfl (by kernel_rfl) (fun K hK => ?_)
        go_big_op
        refine hK _ _ (only_set wr.drew b o _) ?_; clear hK K
        refine OrdR.ord_nil ?_
        clear w0 w00 w1 w2 w22 e3
        have HB6 := Lib.hid ((HB.out.setCell (p := ⟨b, o, none⟩) hbb (.string (lst ++ db))).drew)
        have HO6 := Lib.hid (show OwnT (wr.setCell ⟨b, o, none⟩ (.string (lst ++ db))).drew w.heap.size u5 (strL (cutL c (l.take (k + 1)))) from by
          rw [HSN2.out]; exact OwnT.drew (HSET.out (lst ++ db)))
        clear hcl hfz
        go_wp2
        go_roundw
        case rel => exact ⟨k + 1, by omega, by go_num, HO6, HB6⟩
        case measure => simp [intOf]; omega
    · obtain rfl : k = l.length := by omega
      have HO2 := HO.out
      rw [List.take_of_length_le (Nat.le_refl _)] at HO2
      have HO3 := Lib.hid HO2
      clear hlt HO2
      go_wp2
      go_ret
      exact ⟨_, rfl, HO3.out, HB.out⟩

end Go.Proofs.YtfpidkcdgebnpaaGreatDoor

