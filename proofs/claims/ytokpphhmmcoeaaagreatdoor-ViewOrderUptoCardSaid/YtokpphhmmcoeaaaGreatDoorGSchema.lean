/-
  Package schema: the names that were, a kind, Check, Same.
-/
import Derived.Test.YtokpphhmmcoeaaaGreatDoorGBaseB
import Derived.Test.YtokpphhmmcoeaaaGreatDoorGWire
import Derived.Test.YtokpphhmmcoeaaaGreatDoorGCell
import Derived.Test.YtokpphhmmcoeaaaGreatDoorShelf5
import Derived.Shelf.Strings.SlTrimAscii
import Derived.Deep.QuietTactic
import Derived.BigQuiet
import Derived.Test.YtokpphhmmcoeaaaGreatDoorGBaseA
set_option linter.unusedVariables false
set_option linter.unusedSimpArgs false
set_option maxRecDepth 1000000
namespace Go.Proofs.YtokpphhmmcoeaaaGreatDoor
open Go.RowKit Go.Shelf

/-- The bytes that names are made of. -/
def lettersL : List UInt8 := [97, 98, 99, 100, 101, 102, 103, 104, 105, 106, 107, 108, 109, 110, 111, 112, 113, 114, 115, 116, 117, 118, 119, 120, 121, 122, 48, 49, 50, 51, 52, 53, 54, 55, 56, 57, 95]
theorem letters_mem (c : UInt8) : lettersL.contains c = letterB c.toNat := by
  have : ∀ n : Fin 256, lettersL.contains (UInt8.ofNat n.val) = letterB n.val := by decide +kernel
  have h := this ⟨c.toNat, c.toNat_lt⟩
  rwa [UInt8.ofNat_toNat] at h
theorem trim_letters (l : List UInt8) : (Lib.trimLeftS l lettersL).isEmpty = l.all (fun c => letterB c.toNat) := by
  unfold Lib.trimLeftS
  induction l with
  | nil => rfl
  | cons a r ih =>
    rw [List.dropWhile_cons, List.all_cons, ← letters_mem a]
    by_cases ha : lettersL.contains a = true
    · rw [if_pos ha, ih, ha]; rfl
    · rw [if_neg ha]
      simp only [Bool.not_eq_true] at ha
      rw [ha]; rfl

theorem lib_Letters (s : ByteArray) (l : List UInt8) (w : World) (h : RdS s l) :
    Calls Tryz.prog 102 #[.string s, .string ({ data := #[97, 98, 99, 100, 101, 102, 103, 104, 105, 106, 107, 108, 109, 110, 111, 112, 113, 114, 115, 116, 117, 118, 119, 120, 121, 122, 48, 49, 50, 51, 52, 53, 54, 55, 56, 57, 95] } : ByteArray)] w fun e w' => e = .returned (.string ⟨(Lib.trimLeftS l lettersL).toArray⟩) ∧ Below w.heap.size w w' := by
  have c : Calls Tryz.prog 102 #[.string s, .string ({ data := #[97, 98, 99, 100, 101, 102, 103, 104, 105, 106, 107, 108, 109, 110, 111, 112, 113, 114, 115, 116, 117, 118, 119, 120, 121, 122, 48, 49, 50, 51, 52, 53, 54, 55, 56, 57, 95] } : ByteArray)] w _ := Any.strings_TrimLeft_laid Tryz.laysTrim (by kernel_rfl) s _ w (by decide) (ascii_of_all (by decide))
  rw [show s.data.toList = l from by rw [h.eq]] at c
  exact c

/-- The closure over the names that were: its variable in block c, the map in block m. -/
structure Were (w : World) (c m : Nat) (ah : List (List UInt8)) : Prop where
  var : w.heap[c]? = some (.cells #[.map (some m)] 158 (0, 0))
  set : SetOf w m ah
  ne : c ≠ m

theorem Were.later {w w' : World} {c m : Nat} {ah : List (List UInt8)} (h : Were w c m ah) {B : Nat} (hb : Below B w w') (hB : w.heap.size ≤ B) : Were w' c m ah :=
  ⟨(hb.block c (Nat.lt_of_lt_of_le (Array.getElem?_eq_some_iff.1 h.var).1 hB)).trans h.var, h.set.later hb hB, h.ne⟩
theorem Were.kept {w w' : World} {c m g : Nat} {ah : List (List UInt8)} (h : Were w c m ah) (hg : w.grownBy w' (some g)) (h1 : c ≠ g) (h2 : m ≠ g) : Were w' c m ah :=
  ⟨(hg.block c (Array.getElem?_eq_some_iff.1 h.var).1 (by simpa using h1)).trans h.var, h.set.kept hg (by simpa using h2), h.ne⟩
theorem Were.alloc {w : World} {c m : Nat} {ah : List (List UInt8)} (h : Were w c m ah) (o : Obj) : Were (w.alloc o) c m ah := h.later ((Below.refl w.heap.size w).alloc (Nat.le_refl _) o) (Nat.le_refl _)
theorem Were.lt {w : World} {c m : Nat} {ah : List (List UInt8)} (h : Were w c m ah) : c < w.heap.size ∧ m < w.heap.size := ⟨(Array.getElem?_eq_some_iff.1 h.var).1, h.set.lt⟩

theorem schema_namer (w : World) :
    Calls Tryz.prog 73 #[] w fun e w' => e = .returned (.func (.func 101) #[] #[.pointer (some ⟨w.heap.size + 1, 0, none⟩)]) ∧ Were w' (w.heap.size + 1) w.heap.size [] ∧ Below w.heap.size w w' := by
  have hmm := @run_makeMap Tryz.prog
  have hmf : ∀ (fn : Fn) (first cap : Array Value) (w : World), (Instr.makeFunc fn first cap).run Tryz.prog w = .ok (.func fn first cap) w := fun _ _ _ _ => rfl
  have hs := SetOf.made w
  obtain ⟨n0, n1, n2, n3⟩ := new2 w (.map #[] 0) (.cells #[.map (some w.heap.size)] 158)
  have HS := Lib.hid (hs.alloc (.cells #[.map (some w.heap.size)] 158))
  have H2 := Lib.hid n2
  have H3 := Lib.hid n3
  clear hs n0 n1 n2 n3
  go_enter Tryz.func73, Tryz.ntmps73
  go_wp2
  go_ret
  exact ⟨rfl, ⟨H2.out, HS.out, by omega⟩, H3.out⟩

theorem fine_eq (l : List UInt8) (ah : List (List UInt8)) : fine l ah = (!l.isEmpty && ((Lib.trimLeftS l lettersL).isEmpty && !ah.contains l)) := by
  unfold fine; rw [trim_letters]

theorem grown_after {w w1 w2 : World} {m : Nat} (hb : Below w.heap.size w w1) (hg : w1.grownBy w2 (some m)) : w.grownBy w2 (some m) :=
  ⟨hg.os.trans hb.os, hg.tape.trans hb.tape, hg.output.trans hb.output, Nat.le_trans hb.size hg.size, fun j hj hne => (hg.block j (Nat.lt_of_lt_of_le hj hb.size) hne).trans (hb.block j hj)⟩
theorem Were.put {w w' : World} {c m : Nat} {ah ah' : List (List UInt8)} (h : Were w c m ah) (hs : SetOf w' m ah') (hg : w.grownBy w' (some m)) : Were w' c m ah' :=
  ⟨(hg.block c (Array.getElem?_eq_some_iff.1 h.var).1 (by simpa using h.ne)).trans h.var, hs, h.ne⟩

set_option maxHeartbeats 2000000 in
theorem schema_fits (s : ByteArray) (l : List UInt8) (c m : Nat) (ah : List (List UInt8)) (w : World) (h : RdS s l) (hW : Were w c m ah) (hn : ah.length < 1000) :
    Calls Tryz.prog 101 #[.string s, .pointer (some ⟨c, 0, none⟩)] w fun e w' => e = .returned (.bool (fine l ah)) ∧ Were w' c m (ah ++ [l]) ∧ w.grownBy w' (some m) := by
  have hd : s.data.toList = l := by rw [h.eq]
  have hsm := h.small
  have hsz : s.size ≤ maxLen := by rw [h.eq]; simp [ByteArray.size]; unfold maxLen; omega
  have hemp := h.toList
  have HF := Lib.hid (fine_eq l ah)
  have HD := Lib.hid hd
  have HW := Lib.hid hW
  by_cases hl : l = []
  · have q1 : (s.toList != []) = false := by rw [hemp, hl]; rfl
    have q2 : s.toList.isEmpty = true := by rw [hemp, hl]; rfl
    have c0 := cell_of_one hW.var
    have HF2 := Lib.hid (show fine l ah = false by rw [HF.out, hl]; rfl)
    clear HF hl hemp hd hW
    go_enter Tryz.func101, Tryz.ntmps101
    go_wp2_with (at_mapUpdate; refine wpl_setName m ah HW.out.set ?_ s hsz ?_ ?_ ?_ ?_)
    · rfl
    · rfl
    · rfl
    · unfold maxLen; omega
    intro w1 hs1 hg1
    rw [HD.out] at hs1
    have HS1 := Lib.hid hs1
    have HG1 := Lib.hid hg1
    clear hs1 hg1 c0
    go_wp2
    go_ret
    exact ⟨by rw [HF2.out]; rfl, HW.out.put HS1.out HG1.out, HG1.out⟩
  · have q1 : (s.toList != []) = true := by rw [hemp]; simpa using hl
    have q2 : s.toList.isEmpty = false := by rw [hemp]; cases l <;> simp_all
    have hle : l.isEmpty = false := by cases l <;> simp_all
    have hT := lib_Letters s l w h
    obtain ⟨T, hT9⟩ : ∃ T : ByteArray, T = ⟨(Lib.trimLeftS l lettersL).toArray⟩ := ⟨_, rfl⟩
    have hTl : T.toList = Lib.trimLeftS l lettersL := by rw [hT9, Lib.toList_data]
    rw [← hT9] at hT
    by_cases htr : (Lib.trimLeftS l lettersL).isEmpty = true
    · have t1 : T.toList.isEmpty = true := by rw [hTl]; exact htr
      have t2 : (T.toList == []) = true := by rw [hTl]; simpa using htr
      have HF2 := Lib.hid (show fine l ah = !ah.contains l by rw [HF.out, hle, htr]; rfl)
      clear HF hl hemp hd hW hTl hT9 hle htr
      go_enter Tryz.func101, Tryz.ntmps101
      go_wp2_with fail
      refine hT.mono ?_
      rintro e w1 ⟨rfl, hb⟩
      have HB := Lib.hid hb
      have hW1 := HW.out.later hb (Nat.le_refl _)
      have c0 := cell_of_one hW1.var
      have hlk := hW1.set.look s hsz
      rw [HD.out] at hlk
      obtain ⟨bb, hbb⟩ : ∃ bb, bb = ah.contains l := ⟨_, rfl⟩
      rw [← hbb] at hlk
      have HBB := Lib.hid hbb
      have HW1 := Lib.hid hW1
      clear hb hW1 hbb hT
      go_wp2_with (at_mapUpdate; refine wpl_setName m ah HW1.out.set ?_ s hsz ?_ ?_ ?_ ?_)
      · rfl
      · rfl
      · rfl
      · unfold maxLen; omega
      intro w2 hs1 hg1
      rw [HD.out] at hs1
      have HS1 := Lib.hid hs1
      have HG1 := Lib.hid hg1
      clear hs1 hg1 c0 hlk
      go_wp2
      go_ret
      exact ⟨by rw [HF2.out, ← HBB.out]; rfl, HW1.out.put HS1.out HG1.out, grown_after HB.out HG1.out⟩
    · have t1 : T.toList.isEmpty = false := by rw [hTl]; simpa using htr
      have t2 : (T.toList == []) = false := by rw [hTl]; simpa using htr
      have HF2 := Lib.hid (show fine l ah = false by rw [HF.out, hle, show (Lib.trimLeftS l lettersL).isEmpty = false by simpa using htr]; rfl)
      clear HF hl hemp hd hW hTl hT9 hle htr
      go_enter Tryz.func101, Tryz.ntmps101
      go_wp2_with fail
      refine hT.mono ?_
      rintro e w1 ⟨rfl, hb⟩
      have HB := Lib.hid hb
      have hW1 := HW.out.later hb (Nat.le_refl _)
      have c0 := cell_of_one hW1.var
      have HW1 := Lib.hid hW1
      clear hb hW1 hT
      go_wp2_with (at_mapUpdate; refine wpl_setName m ah HW1.out.set ?_ s hsz ?_ ?_ ?_ ?_)
      · rfl
      · rfl
      · rfl
      · unfold maxLen; omega
      intro w2 hs1 hg1
      rw [HD.out] at hs1
      have HS1 := Lib.hid hs1
      have HG1 := Lib.hid hg1
      clear hs1 hg1 c0
      go_wp2
      go_ret
      exact ⟨by rw [HF2.out]; rfl, HW1.out.put HS1.out HG1.out, grown_after HB.out HG1.out⟩

/-- A kind that there is. -/
def kindOk (k : Int) : Bool := decide (0 ≤ k ∧ k ≤ 5)
theorem check_kind5 (k : Int) : (((checkC k 0 [] : Nat) : Int) == 0) = kindOk k := by
  unfold kindOk
  by_cases h : 0 ≤ k ∧ k ≤ 5
  · rw [decide_eq_true h]
    have : checkC k 0 [] = 0 := by
      unfold checkC
      rw [if_neg (by omega), if_neg ?_, if_neg (by simp)]
      rintro (⟨_, b⟩ | ⟨_, b⟩ | ⟨_, b⟩ | ⟨_, b⟩)
      · exact b rfl
      · exact b rfl
      · omega
      · exact absurd b (by decide +kernel)
    rw [this]; rfl
  · rw [decide_eq_false h]
    have : checkC k 0 [] = 10 := by unfold checkC; rw [if_pos (by omega)]
    rw [this]; rfl

theorem schema_isKind (k : Int) (w : World) (hT : Tabs w) :
    Calls Tryz.prog 74 #[.int .i64 k] w fun e w' => e = .returned (.bool (kindOk k)) ∧ Below w.heap.size w w' := by
  have hc := check_kind5 k
  obtain ⟨n, hn⟩ : ∃ n, n = checkC k 0 [] := ⟨_, rfl⟩
  rw [← hn] at hc
  have HC := Lib.hid hc
  have HN := Lib.hid hn
  have hcv : cellV 0 ⟨#[]⟩ = .agg #[.int .u64 0, .string ⟨#[]⟩] := rfl
  have hk := cell_Check k 0 ⟨#[]⟩ [] w ⟨rfl, by simp⟩ hT
  rw [hcv, ← hn] at hk
  clear hc hn hcv
  go_enter Tryz.func74, Tryz.ntmps74
  go_wp2_with fail
  refine hk.mono ?_
  rintro e w1 ⟨rfl, hb⟩
  have HB := Lib.hid hb
  clear hb hk
  go_wp2
  go_ret
  exact ⟨by rw [← HC.out]; rfl, HB.out⟩

end Go.Proofs.YtokpphhmmcoeaaaGreatDoor


/-
  Package schema: Check.
-/
namespace Go.Proofs.YtokpphhmmcoeaaaGreatDoor
open Go.RowKit Go.Shelf

/-- A column as its name's bytes and its kind. -/
def colL (c : ColB) : Col := (c.1.data.toList, c.2)
def colsL (cs : List ColB) : List Col := cs.map colL
theorem colsL_length (cs : List ColB) : (colsL cs).length = cs.length := by simp [colsL]
theorem colsL_getD {cs : List ColB} {k : Nat} (h : k < cs.length) : (colsL cs).getD k default = colL (cs.getD k default) := by
  simp [colsL, List.getD, h]
theorem CS.get {cs : List ColB} (h : CS cs) {k : Nat} (hk : k < cs.length) : (cs.getD k default).1.size ≤ 140737488351232 ∧ -9223372036854775808 ≤ (cs.getD k default).2 ∧ (cs.getD k default).2 ≤ 9223372036854775807 := by
  have e : cs.getD k default = cs[k] := by simp [List.getD, hk]
  rw [e]; exact h _ (List.getElem_mem _)

set_option maxHeartbeats 4000000 in
theorem schema_Check (v : Value) (cs : List ColB) (w : World) (h : RdC w v cs) (hC : CS cs) (hT : Tabs w) :
    Calls Tryz.prog 53 #[v] w fun e w' => e = .returned (.int .i64 (errS (colsL cs) : Nat)) ∧ Below w.heap.size w w' := by
  have hlen := h.len
  have hsm := h.small
  by_cases h0 : cs.length = 0
  · have HE := Lib.hid (show errS (colsL cs) = 4 by unfold errS; rw [colsL_length, if_pos h0])
    have q : ((cs.length : Int) == 0) = true := by rw [h0]; rfl
    clear h0 h
    go_enter Tryz.func53, Tryz.ntmps53
    go_wp2
    go_ret
    exact ⟨by rw [HE.out]; rfl, Below.refl _ _⟩
  have q : ((cs.length : Int) == 0) = false := by rw [beq_eq_false_iff_ne]; omega
  by_cases h8 : 8 < cs.length
  · have HE := Lib.hid (show errS (colsL cs) = 13 by unfold errS; rw [colsL_length, if_neg h0, if_pos h8])
    have q2 : decide ((cs.length : Int) > 8) = true := decide_eq_true (by omega)
    clear h0 h
    go_enter Tryz.func53, Tryz.ntmps53
    go_wp2
    go_ret
    exact ⟨by rw [HE.out]; rfl, Below.refl _ _⟩
  have q2 : decide ((cs.length : Int) > 8) = false := decide_eq_false (by omega)
  have HE := Lib.hid (show errS (colsL cs) = errFrom [] (colsL cs) by unfold errS; rw [colsL_length, if_neg h0, if_neg h8])
  clear h0
  have HH := Lib.hid h
  clear h
  go_enter Tryz.func53, Tryz.ntmps53
  go_wp2_with fail
  refine (schema_namer w).mono ?_
  rintro e w1 ⟨rfl, hW, hb⟩
  have HW := Lib.hid hW
  have HB := Lib.hid hb
  clear hW hb
  go_wp2
  go_loopw [15] (fun i wr => ∃ k : Nat, k ≤ cs.length ∧ i = .int .i64 k ∧ Hid (Below w.heap.size w wr) ∧ Hid (Were wr (w.heap.size + 1) w.heap.size (names ((colsL cs).take k))) ∧ Hid (errFrom [] (colsL cs) = errFrom (names ((colsL cs).take k)) ((colsL cs).drop k))) (fun i _ => cs.length - (intOf i).toNat)
  case atStart => exact ⟨0, by omega, rfl, HB, HW, Lib.hid rfl⟩
  case round =>
    clear HW HB
    obtain ⟨k, hk, rfl, HB, HW, HN⟩ := hrel
    by_cases hlt : k < cs.length
    · have hr := HH.out.later HB.out (Nat.le_refl _)
      obtain ⟨b, o, hidx, hcell, hblk⟩ := hr.get hlt
      obtain ⟨hc0, hc1⟩ := hcell _ hr
      obtain ⟨hs1, hk1, hk2⟩ := hC.get hlt
      have hst := errFrom_step (cs := colsL cs) (k := k) (by rw [colsL_length]; exact hlt)
      rw [colsL_getD hlt] at hst
      rcases hcg : cs.getD k default with ⟨s, kd⟩
      rw [hcg] at hc0 hc1 hs1 hk1 hk2 hst
      dsimp only at hc0 hc1 hs1 hk1 hk2
      have hS := rdS_of hs1
      obtain ⟨l, hl⟩ : ∃ l, l = s.data.toList := ⟨_, rfl⟩
      rw [← hl] at hS
      have hst : errFrom (names ((colsL cs).take k)) ((colsL cs).drop k) = if colErr (names ((colsL cs).take k)) (l, kd) ≠ 0 then colErr (names ((colsL cs).take k)) (l, kd) else errFrom (names ((colsL cs).take (k + 1))) ((colsL cs).drop (k + 1)) := by
        rw [hst]; unfold colL; rw [← hl]
      have HST := Lib.hid hst
      have HG := Lib.hid hcg
      have hsl := hS.len
      have hidx' := hidx
      have HL := Lib.hid hl
      have HS := Lib.hid hS
      clear hst hcg hcell hr hl hS hs1
      by_cases h32 : 32 < l.length
      · have q3 : decide ((l.length : Int) > 32) = true := decide_eq_true (by omega)
        have HF := Lib.hid (show errS (colsL cs) = 7 by
          rw [HE.out, HN.out, HST.out]
          have e : colErr (names ((colsL cs).take k)) (l, kd) = 7 := by unfold colErr; exact if_pos h32
          rw [e]; rfl)
        go_wp2
        go_ret
        exact ⟨by rw [HF.out]; rfl, HB.out.alloc HB.out.size _⟩
      · have q3 : decide ((l.length : Int) > 32) = false := decide_eq_false (by omega)
        have HB1 := Lib.hid (HB.out.alloc HB.out.size (.cells #[.string s, .int .i64 kd] 68))
        obtain ⟨N0, N1, N2⟩ := new1 wr (.cells #[.string s, .int .i64 kd] 68)
        have HW1 := Lib.hid (HW.out.alloc (.cells #[.string s, .int .i64 kd] 68))
        have Q1 := Lib.hid N1
        have hwr := HB.out.size
        have hwl := HW.out.lt
        clear N0 N1 N2
        go_wp2_with fail
        refine (schema_fits s l (w.heap.size + 1) w.heap.size _ _ HS.out HW1.out (by simp [names]; omega)).mono ?_
        rintro e w2 ⟨rfl, hW2, hg⟩
        have HW2 := Lib.hid hW2
        have q2 := (hg.block wr.heap.size (by simp) (by simp; omega)).trans Q1.out
        have c0 := new_cellC (i := 0) q2 rfl
        have c1 := new_cellC (i := 1) q2 rfl
        have HB2 := Lib.hid (HB1.out.grown hg (by simp; omega) (fun j hj => by cases hj; exact Nat.le_refl _))
        have hn2 : names ((colsL cs).take (k + 1)) = names ((colsL cs).take k) ++ [l] := by
          rw [take_succD (by rw [colsL_length]; exact hlt) default, colsL_getD hlt, HG.out, HL.out]
          simp [names, colL]
        rw [← hn2] at hW2
        replace HW2 := Lib.hid hW2
        clear hW2 hg q2 HW1 hn2 hc0 hc1
        by_cases hf : fine l (names ((colsL cs).take k)) = true
        · rw [hf]
          go_wp2_with fail
          refine (schema_isKind kd w2 (hT.later HB2.out)).mono ?_
          rintro e w3 ⟨rfl, hb⟩
          have HB3 := Lib.hid (HB2.out.trans (hb.mono HB2.out.size))
          have HW3 := Lib.hid (HW2.out.later hb (Nat.le_refl _))
          clear hb c0 c1
          by_cases hkd : 0 ≤ kd ∧ kd ≤ 5
          · rw [show kindOk kd = true from decide_eq_true hkd]
            have HN2 := Lib.hid (show errFrom [] (colsL cs) = errFrom (names ((colsL cs).take (k + 1))) ((colsL cs).drop (k + 1)) by
              rw [HN.out, HST.out]
              have e : colErr (names ((colsL cs).take k)) (l, kd) = 0 := by unfold colErr; rw [if_neg h32, if_neg (by rw [hf]; decide), if_neg (by dsimp only; omega)]
              rw [e]; rfl)
            clear hf
            go_wp2
            go_roundw
            case rel => exact ⟨k + 1, by omega, by go_num, HB3, HW3, HN2⟩
            case measure => simp [intOf]; omega
          · rw [show kindOk kd = false from decide_eq_false hkd]
            have HF := Lib.hid (show errS (colsL cs) = 10 by
              rw [HE.out, HN.out, HST.out]
              have e : colErr (names ((colsL cs).take k)) (l, kd) = 10 := by unfold colErr; rw [if_neg h32, if_neg (by rw [hf]; decide), if_pos (by dsimp only; omega)]
              rw [e]; rfl)
            clear hf
            go_wp2
            go_ret
            exact ⟨by rw [HF.out]; rfl, HB3.out⟩
        · have hf' : fine l (names ((colsL cs).take k)) = false := by simpa using hf
          have HF := Lib.hid (show errS (colsL cs) = 2 by
            rw [HE.out, HN.out, HST.out]
            have e : colErr (names ((colsL cs).take k)) (l, kd) = 2 := by unfold colErr; rw [if_neg h32, if_pos hf']
            rw [e]; rfl)
          rw [hf']
          clear hf hf'
          go_wp2
          go_ret
          exact ⟨by rw [HF.out]; rfl, HB2.out⟩
    · obtain rfl : k = cs.length := by omega
      have HF := Lib.hid (show errS (colsL cs) = 0 by
        rw [HE.out, HN.out, List.drop_of_length_le (by rw [colsL_length]; omega)]; rfl)
      clear hlt
      go_wp2
      go_ret
      exact ⟨by rw [HF.out]; rfl, HB.out⟩

end Go.Proofs.YtokpphhmmcoeaaaGreatDoor


/-
  The document's own answers for layer 5: a name that may be.
-/
namespace Go.Proofs.YtokpphhmmcoeaaaGreatDoor
open Go.RowKit Go.Shelf

theorem all_step {l : List UInt8} {k : Nat} (h : k < l.length) (p : UInt8 → Bool) : (l.take (k + 1)).all p = ((l.take k).all p && p (l.getD k 0)) := by
  rw [take_succD h 0, List.all_append]; simp
theorem names_step {cs : List ColB} {k : Nat} (h : k < cs.length) : names ((colsL cs).take (k + 1)) = names ((colsL cs).take k) ++ [(cs.getD k default).1.data.toList] := by
  rw [take_succD (by rw [colsL_length]; exact h) default, colsL_getD h]
  simp [names, colL]

set_option maxHeartbeats 4000000 in
theorem ref_Fine (s : ByteArray) (l : List UInt8) (v : Value) (cs : List ColB) (w : World) (h : RdS s l) (hR : RdC w v cs) :
    Calls Tryz.prog 47 #[.string s, v] w fun e w' => e = .returned (.bool (fine l (names (colsL cs)))) ∧ w' = w := by
  have hlen := h.len
  have hsm := h.small
  have htl := h.toList
  have hdl : s.data.toList = l := by rw [h.eq]
  have hcl := hR.len
  have hcs := hR.small
  by_cases hl : l = []
  · have q : s.toList.isEmpty = true := by rw [htl, hl]; rfl
    have q2 : (s.toList == []) = true := by rw [htl, hl]; rfl
    have HF := Lib.hid (show fine l (names (colsL cs)) = false by rw [hl]; rfl)
    clear htl hdl hl hlen
    go_enter Tryz.func47, Tryz.ntmps47
    go_wp2
    go_ret
    exact ⟨by rw [HF.out]; rfl, rfl⟩
  have q : s.toList.isEmpty = false := by rw [htl]; cases l <;> simp_all
  have q2 : (s.toList == []) = false := by rw [htl]; simpa using hl
  have hle : l.isEmpty = false := by cases l <;> simp_all
  have HE := Lib.hid (show fine l (names (colsL cs)) = (l.all (fun c => letterB c.toNat) && !(names (colsL cs)).contains l) by unfold fine; rw [hle]; rfl)
  have HI := Lib.hid h.idx
  have HTL := Lib.hid htl
  have HR := Lib.hid hR
  have HDL := Lib.hid hdl
  clear htl hle hl hR hdl
  go_enter Tryz.func47, Tryz.ntmps47
  go_wp2
  go_loop [5] (fun i => ∃ k : Nat, k ≤ l.length ∧ i = .int .i64 k ∧ Hid ((l.take k).all (fun c => letterB c.toNat) = true)) (fun i => l.length - (intOf i).toNat)
  case atStart => exact ⟨0, by omega, rfl, Lib.hid rfl⟩
  case round =>
    obtain ⟨k, hk, rfl, HA⟩ := hrel
    by_cases hlt : k < l.length
    · have hx := HI.out k hlt
      obtain ⟨c, hc⟩ : ∃ c : Nat, c = (l.getD k 0).toNat := ⟨_, rfl⟩
      have hc9 : at8 l k = (c : Int) := by rw [hc]; rfl
      have hc1 : c < 256 := by rw [hc]; exact (l.getD k 0).toNat_lt
      rw [hc9] at hx
      have hst := all_step hlt (fun c => letterB c.toNat)
      have HS := Lib.hid (show (l.take (k + 1)).all (fun c => letterB c.toNat) = letterB c by rw [hst, HA.out, ← hc]; rfl)
      have HL := Lib.hid (show l.all (fun c => letterB c.toNat) = true → letterB c = true from fun hh => by
        rw [hc]
        have e : l.getD k 0 = l[k] := by simp [List.getD, hlt]
        rw [e]
        exact List.all_eq_true.1 hh _ (List.getElem_mem _))
      clear hc hc9 hst
      by_cases hle : letterB c = true
      · have HS2 := Lib.hid (HS.out.trans hle)
        unfold letterB at hle
        have hle := of_decide_eq_true hle
        clear HS HL
        rcases hle with ⟨p1, p2⟩ | ⟨p1, p2⟩ | p1
        · have d1 : decide ((c : Int) ≥ 97) = true := decide_eq_true (by omega)
          have d2 : decide ((c : Int) ≤ 122) = true := decide_eq_true (by omega)
          go_wp2
          go_round
          case rel => exact ⟨k + 1, by omega, by go_num, HS2⟩
          case measure => simp [intOf]; omega
        · have d1 : decide ((c : Int) ≥ 97) = false := decide_eq_false (by omega)
          have d2 : decide ((c : Int) ≥ 48) = true := decide_eq_true (by omega)
          have d3 : decide ((c : Int) ≤ 57) = true := decide_eq_true (by omega)
          go_wp2
          go_round
          case rel => exact ⟨k + 1, by omega, by go_num, HS2⟩
          case measure => simp [intOf]; omega
        · have d1 : decide ((c : Int) ≥ 97) = false := decide_eq_false (by omega)
          have d2 : decide ((c : Int) ≥ 48) = true := decide_eq_true (by omega)
          have d3 : decide ((c : Int) ≤ 57) = false := decide_eq_false (by omega)
          have d4 : ((c : Int) == 95) = true := by rw [p1]; rfl
          clear p1
          go_wp2
          go_round
          case rel => exact ⟨k + 1, by omega, by go_num, HS2⟩
          case measure => simp [intOf]; omega
      · have HF := Lib.hid (show fine l (names (colsL cs)) = false by
          rw [HE.out, show l.all (fun c => letterB c.toNat) = false from by
            cases hb : l.all (fun c => letterB c.toNat) with
            | false => rfl
            | true => exact absurd (HL.out hb) hle]
          rfl)
        unfold letterB at hle
        have hle : ¬ (97 ≤ c ∧ c ≤ 122 ∨ 48 ≤ c ∧ c ≤ 57 ∨ c = 95) := fun hh => hle (decide_eq_true hh)
        clear HS HL
        have d4 : ((c : Int) == 95) = false := by rw [beq_eq_false_iff_ne]; omega
        by_cases p1 : 97 ≤ c
        · have d1 : decide ((c : Int) ≥ 97) = true := decide_eq_true (by omega)
          have d2 : decide ((c : Int) ≤ 122) = false := decide_eq_false (by omega)
          have d5 : decide ((c : Int) ≥ 48) = true := decide_eq_true (by omega)
          have d3 : decide ((c : Int) ≤ 57) = false := decide_eq_false (by omega)
          go_wp2
          go_ret
          exact ⟨by rw [HF.out]; rfl, rfl⟩
        · have d1 : decide ((c : Int) ≥ 97) = false := decide_eq_false (by omega)
          by_cases p2 : 48 ≤ c
          · have d5 : decide ((c : Int) ≥ 48) = true := decide_eq_true (by omega)
            have d3 : decide ((c : Int) ≤ 57) = false := decide_eq_false (by omega)
            go_wp2
            go_ret
            exact ⟨by rw [HF.out]; rfl, rfl⟩
          · have d5 : decide ((c : Int) ≥ 48) = false := decide_eq_false (by omega)
            go_wp2
            go_ret
            exact ⟨by rw [HF.out]; rfl, rfl⟩
    · obtain rfl : k = l.length := by omega
      have HE2 := Lib.hid (show fine l (names (colsL cs)) = !(names (colsL cs)).contains l by
        have := HA.out
        rw [List.take_of_length_le (Nat.le_refl _)] at this
        rw [HE.out, this]; rfl)
      clear HA HE
      go_wp2
      go_loop [7] (fun i => ∃ k : Nat, k ≤ cs.length ∧ i = .int .i64 k ∧ Hid ((names ((colsL cs).take k)).contains l = false)) (fun i => cs.length - (intOf i).toNat)
      case atStart => exact ⟨0, by omega, rfl, Lib.hid rfl⟩
      case round =>
        obtain ⟨k, hk, rfl, HA⟩ := hrel
        by_cases hlt : k < cs.length
        · obtain ⟨b, o, hi, hc, hb⟩ := HR.out.get hlt
          obtain ⟨c0, c1⟩ := hc _ HR.out
          have hns := names_step hlt
          have HIN := Lib.hid (show (cs.getD k default).1.data.toList ∈ names (colsL cs) from by
            have e : cs.getD k default = cs[k] := by simp [List.getD, hlt]
            rw [e]
            exact List.mem_map.2 ⟨colL cs[k], List.mem_map.2 ⟨cs[k], List.getElem_mem _, rfl⟩, rfl⟩)
          rcases hcg : cs.getD k default with ⟨t, kd⟩
          rw [hcg] at c0 c1 hns HIN
          dsimp only at c0 c1 hns
          have HNS := Lib.hid hns
          clear hc hns hcg
          by_cases hst : t = s
          · subst hst
            have HF := Lib.hid (show fine l (names (colsL cs)) = false by
              rw [HE2.out]
              have := HIN.out
              dsimp only at this
              rw [HDL.out] at this
              simpa using this)
            clear HNS HIN
            go_wp2
            go_ret
            exact ⟨by rw [HF.out]; rfl, rfl⟩
          · have hne : (t.toList == s.toList) = false := by
              rw [beq_eq_false_iff_ne]
              intro e
              rw [Lib.toList_data, Lib.toList_data] at e
              exact hst (by cases s; cases t; simp at e; rw [e])
            have HN2 := Lib.hid (show (names ((colsL cs).take (k + 1))).contains l = false by
              rw [HNS.out]
              have h0 := HA.out
              have h1 : ¬ l = t.data.toList := fun e => hst (by
                have := HDL.out
                rw [e] at this
                cases s; cases t; simp at this; rw [this])
              simp at h0 ⊢
              exact ⟨h0, h1⟩)
            clear HNS hst HIN
            go_wp2
            go_round
            case rel => exact ⟨k + 1, by omega, by go_num, HN2⟩
            case measure => simp [intOf]; omega
        · obtain rfl : k = cs.length := by omega
          have HF := Lib.hid (show fine l (names (colsL cs)) = true by
            have := HA.out
            rw [List.take_of_length_le (by rw [colsL_length]; exact Nat.le_refl _)] at this
            rw [HE2.out, this]; rfl)
          clear hlt
          go_wp2
          go_ret
          exact ⟨by rw [HF.out]; rfl, rfl⟩

end Go.Proofs.YtokpphhmmcoeaaaGreatDoor


/-
  The document's own answers for layer 5: Check.
-/
namespace Go.Proofs.YtokpphhmmcoeaaaGreatDoor
open Go.RowKit Go.Shelf

/-- 's[:i]' of a slice of columns. -/
theorem RdC.upto {w : World} {v : Value} {cs : List ColB} (h : RdC w v cs) (i : Nat) (hi : i ≤ cs.length) :
    ∃ v', (∀ u, (Instr.slice 22 v none (some (.int .i64 (i : Int))) none).run Tryz.prog u = .ok v' u) ∧ ∀ w', RdC w' v cs → RdC w' v' (cs.take i) := by
  obtain ⟨ao, cap, hv, hcap, hnil, hsome⟩ := RdG.shape h
  rw [List.length_map] at hcap hsome hv
  subst hv
  refine ⟨.slice ao i cap, fun u => ?_, fun w' h' => ?_⟩
  · rw [run_slice_h (P := Tryz.prog) u 22 ao cs.length cap Tryz.underlying22 .i64 i (by omega) (by omega)]
    simp [go_sem, Result.andThen, sliced]
  · have hsm := RdC.small h'
    have hlen : (cs.take i).length = i := by simp; omega
    refine ⟨⟨ao, cap, by rw [List.length_map, hlen], by rw [List.length_map, hlen]; omega, hnil, fun hp => hsome (by rw [List.length_map, hlen] at hp; omega)⟩, fun j hj k u hu => ?_, fun x hx => ?_, by rw [List.length_map, hlen]; omega⟩
    · rw [List.length_map, hlen] at hj
      have hjc : j < cs.length := by omega
      have e : ((cs.take i).map colV).getD j [] = (cs.map colV).getD j [] := by
        rw [getD_map colV _ j (by rw [hlen]; exact hj) default, getD_map colV _ j hjc default]
        congr 1
        simp [List.getD, hj]
      rw [e] at hu
      have := RdG.cells h' j (by rw [List.length_map]; exact hjc) k u hu
      obtain ⟨b, o, he⟩ := hsome (by omega)
      subst he
      rw [adr_lit] at this ⊢
      exact this
    · obtain ⟨c, _, rfl⟩ := List.mem_map.1 hx
      rfl

set_option maxHeartbeats 4000000 in
theorem ref_Check05 (v : Value) (cs : List ColB) (w : World) (h : RdC w v cs) (hC : CS cs) :
    Calls Tryz.prog 27 #[v] w fun e w' => e = .returned (.int .i64 (errS (colsL cs) : Nat)) ∧ Below w.heap.size w w' := by
  have hlen := h.len
  have hsm := h.small
  by_cases h0 : cs.length = 0
  · have HE := Lib.hid (show errS (colsL cs) = 4 by unfold errS; rw [colsL_length, if_pos h0])
    have q : ((cs.length : Int) == 0) = true := by rw [h0]; rfl
    clear h0 h
    go_enter Tryz.func27, Tryz.ntmps27
    go_wp2
    go_ret
    exact ⟨by rw [HE.out]; rfl, Below.refl _ _⟩
  have q : ((cs.length : Int) == 0) = false := by rw [beq_eq_false_iff_ne]; omega
  by_cases h8 : 8 < cs.length
  · have HE := Lib.hid (show errS (colsL cs) = 13 by unfold errS; rw [colsL_length, if_neg h0, if_pos h8])
    have q2 : decide ((cs.length : Int) > 8) = true := decide_eq_true (by omega)
    clear h0 h
    go_enter Tryz.func27, Tryz.ntmps27
    go_wp2
    go_ret
    exact ⟨by rw [HE.out]; rfl, Below.refl _ _⟩
  have q2 : decide ((cs.length : Int) > 8) = false := decide_eq_false (by omega)
  have HE := Lib.hid (show errS (colsL cs) = errFrom [] (colsL cs) by unfold errS; rw [colsL_length, if_neg h0, if_neg h8])
  clear h0
  have HH := Lib.hid h
  have HB0 := Lib.hid (Below.refl w.heap.size w)
  clear h
  go_enter Tryz.func27, Tryz.ntmps27
  go_wp2
  go_loopw [3] (fun i wr => ∃ k : Nat, k ≤ cs.length ∧ i = .int .i64 k ∧ Hid (Below w.heap.size w wr) ∧ Hid (errFrom [] (colsL cs) = errFrom (names ((colsL cs).take k)) ((colsL cs).drop k))) (fun i _ => cs.length - (intOf i).toNat)
  case atStart => exact ⟨0, by omega, rfl, HB0, Lib.hid rfl⟩
  case round =>
    clear HB0
    obtain ⟨k, hk, rfl, HB, HN⟩ := hrel
    by_cases hlt : k < cs.length
    · have hr := HH.out.later HB.out (Nat.le_refl _)
      obtain ⟨b, o, hidx, hcell, hblk⟩ := hr.get hlt
      obtain ⟨hc0, hc1⟩ := hcell _ hr
      obtain ⟨vu, hup, hur⟩ := hr.upto k hk
      have HU := Lib.hid (hur _ hr)
      obtain ⟨hs1, hk1, hk2⟩ := hC.get hlt
      have hst := errFrom_step (cs := colsL cs) (k := k) (by rw [colsL_length]; exact hlt)
      rw [colsL_getD hlt] at hst
      rcases hcg : cs.getD k default with ⟨s, kd⟩
      rw [hcg] at hc0 hc1 hs1 hk1 hk2 hst
      dsimp only at hc0 hc1 hs1 hk1 hk2
      have hS := rdS_of hs1
      obtain ⟨l, hl⟩ : ∃ l, l = s.data.toList := ⟨_, rfl⟩
      rw [← hl] at hS
      have hst : errFrom (names ((colsL cs).take k)) ((colsL cs).drop k) = if colErr (names ((colsL cs).take k)) (l, kd) ≠ 0 then colErr (names ((colsL cs).take k)) (l, kd) else errFrom (names ((colsL cs).take (k + 1))) ((colsL cs).drop (k + 1)) := by
        rw [hst]; unfold colL; rw [← hl]
      have HST := Lib.hid hst
      have hsl := hS.len
      have HS := Lib.hid hS
      have hnm : names (colsL (cs.take k)) = names ((colsL cs).take k) := by unfold colsL; rw [List.map_take]
      have hfn := fun u (hu : RdC u vu (cs.take k)) => ref_Fine s l vu (cs.take k) u HS.out hu
      rw [hnm] at hfn
      obtain ⟨ff, hff⟩ : ∃ ff, ff = fine l (names ((colsL cs).take k)) := ⟨_, rfl⟩
      rw [← hff] at hfn
      have HFN := Lib.hid hfn
      have HFF := Lib.hid hff
      clear hst hcg hcell hr hl hS hs1 hnm hfn hff hur
      by_cases h32 : 32 < l.length
      · have q3 : decide ((l.length : Int) > 32) = true := decide_eq_true (by omega)
        have HF := Lib.hid (show errS (colsL cs) = 7 by
          rw [HE.out, HN.out, HST.out]
          have e : colErr (names ((colsL cs).take k)) (l, kd) = 7 := by unfold colErr; exact if_pos h32
          rw [e]; rfl)
        go_wp2
        go_ret
        exact ⟨by rw [HF.out]; rfl, HB.out⟩
      · have q3 : decide ((l.length : Int) > 32) = false := decide_eq_false (by omega)
        cases ff with
        | false =>
          have HF := Lib.hid (show errS (colsL cs) = 2 by
            rw [HE.out, HN.out, HST.out]
            have e : colErr (names ((colsL cs).take k)) (l, kd) = 2 := by unfold colErr; rw [if_neg h32, if_pos HFF.out.symm]
            rw [e]; rfl)
          go_wp2_with fail
          go_quiet ((go_at_call 47; exact Calls.quiet_of_same (HFN.out _ (HU.out.later (below_drewN (Below.refl _ _) _) (Nat.le_refl _)))))
          go_wp2
          go_ret
          exact ⟨by rw [HF.out]; rfl, below_drewN HB.out _⟩
        | true =>
          by_cases hkd : 0 ≤ kd ∧ kd ≤ 5
          · have HN2 := Lib.hid (show errFrom [] (colsL cs) = errFrom (names ((colsL cs).take (k + 1))) ((colsL cs).drop (k + 1)) by
              rw [HN.out, HST.out]
              have e : colErr (names ((colsL cs).take k)) (l, kd) = 0 := by unfold colErr; rw [if_neg h32, if_neg (by rw [← HFF.out]; decide), if_neg (by dsimp only; omega)]
              rw [e]; rfl)
            have d1 : decide (kd < 0) = false := decide_eq_false (by omega)
            have d2 : decide (kd > 5) = false := decide_eq_false (by omega)
            go_wp2_with fail
            go_quiet ((go_at_call 47; exact Calls.quiet_of_same (HFN.out _ (HU.out.later (below_drewN (Below.refl _ _) _) (Nat.le_refl _)))))
            go_wp2
            go_roundw
            case rel => exact ⟨k + 1, by omega, by go_num, Lib.hid (below_drewN HB.out _), HN2⟩
            case measure => simp [intOf]; omega
          · have HF := Lib.hid (show errS (colsL cs) = 10 by
              rw [HE.out, HN.out, HST.out]
              have e : colErr (names ((colsL cs).take k)) (l, kd) = 10 := by unfold colErr; rw [if_neg h32, if_neg (by rw [← HFF.out]; decide), if_pos (by dsimp only; omega)]
              rw [e]; rfl)
            by_cases hk0 : kd < 0
            · have d1 : decide (kd < 0) = true := decide_eq_true hk0
              go_wp2_with fail
              go_quiet ((go_at_call 47; exact Calls.quiet_of_same (HFN.out _ (HU.out.later (below_drewN (Below.refl _ _) _) (Nat.le_refl _)))))
              go_wp2
              go_ret
              exact ⟨by rw [HF.out]; rfl, below_drewN HB.out _⟩
            · have d1 : decide (kd < 0) = false := decide_eq_false (by omega)
              have d2 : decide (kd > 5) = true := decide_eq_true (by omega)
              go_wp2_with fail
              go_quiet ((go_at_call 47; exact Calls.quiet_of_same (HFN.out _ (HU.out.later (below_drewN (Below.refl _ _) _) (Nat.le_refl _)))))
              go_wp2
              go_ret
              exact ⟨by rw [HF.out]; rfl, below_drewN HB.out _⟩
    · obtain rfl : k = cs.length := by omega
      have HF := Lib.hid (show errS (colsL cs) = 0 by
        rw [HE.out, HN.out, List.drop_of_length_le (by rw [colsL_length]; omega)]; rfl)
      clear hlt
      go_wp2
      go_ret
      exact ⟨by rw [HF.out]; rfl, HB.out⟩

end Go.Proofs.YtokpphhmmcoeaaaGreatDoor


/-
  Two schemas, column by column: slices.Equal, Same, and the document's own.
-/
namespace Go.Proofs.YtokpphhmmcoeaaaGreatDoor
open Go.RowKit Go.Shelf

theorem eq_step {cs ds : List ColB} {k : Nat} (h1 : k < cs.length) (h2 : k < ds.length) (h : cs.take k = ds.take k) (he : cs.getD k default = ds.getD k default) : cs.take (k + 1) = ds.take (k + 1) := by
  rw [take_succD h1 default, take_succD h2 default, h, he]

end Go.Proofs.YtokpphhmmcoeaaaGreatDoor

