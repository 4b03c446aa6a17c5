/-
  Package schema: the names that were, a kind, Check, Same.
-/
import Derived.Test.YtkljkpffpdpphaaDoorCols
import Derived.Test.YtkljkpffpdpphaaDoorNameSet
import Derived.Test.YtkljkpffpdpphaaDoorSchErr
import Derived.Test.YtkljkpffpdpphaaDoorCellB
import Derived.Test.YtkljkpffpdpphaaDoorShelf5
import Derived.Shelf.Strings.SlTrimAscii
set_option linter.unusedVariables false
set_option linter.unusedSimpArgs false
set_option maxRecDepth 1000000
namespace Go.Proofs.YtkljkpffpdpphaaDoor
open Go.RowKit Go.Shelf

/-- The bytes that names are made of. -/
def lettersL : List UInt8 := [97, 98, 99, 100, 101, 102, 103, 104, 105, 106, 107, 108, 109, 110, 111, 112, 113, 114, 115, 116, 117, 118, 119, 120, 121, 122, 48, 49, 50, 51, 52, 53, 54, 55, 56, 57, 95]
theorem letters_mem (c : UInt8) : lettersL.contains c = letterB c.toNat := by
  have : ∀ n : Fin 256, lettersL.contains (UInt8.ofNat n.val) = letterB n.val := by decide +kernel
  have h := this ⟨c.toNat, c.toNat_lt⟩
  rwa [UInt8.ofNat_toNat] at h
theorem trim_letters (l : List UInt8) : (Lib.trimLeftS l lettersL).isEmpty = l.all (fun c => letterB c.toNat) := by
  unfold Lib.trimLeftS
  induction l with
  | nil => rfl
  | cons a r ih =>
    rw [List.dropWhile_cons, List.all_cons, ← letters_mem a]
    by_cases ha : lettersL.contains a = true
    · rw [if_pos ha, ih, ha]; rfl
    · rw [if_neg ha]
      simp only [Bool.not_eq_true] at ha
      rw [ha]; rfl

theorem lib_Letters (s : ByteArray) (l : List UInt8) (w : World) (h : RdS s l) :
    Calls Tryd.prog 53 #[.string s, .string ({ data := #[97, 98, 99, 100, 101, 102, 103, 104, 105, 106, 107, 108, 109, 110, 111, 112, 113, 114, 115, 116, 117, 118, 119, 120, 121, 122, 48, 49, 50, 51, 52, 53, 54, 55, 56, 57, 95] } : ByteArray)] w fun e w' => e = .returned (.string ⟨(Lib.trimLeftS l lettersL).toArray⟩) ∧ Below w.heap.size w w' := by
  have c : Calls Tryd.prog 53 #[.string s, .string ({ data := #[97, 98, 99, 100, 101, 102, 103, 104, 105, 106, 107, 108, 109, 110, 111, 112, 113, 114, 115, 116, 117, 118, 119, 120, 121, 122, 48, 49, 50, 51, 52, 53, 54, 55, 56, 57, 95] } : ByteArray)] w _ := Any.strings_TrimLeft_laid Tryd.laysTrim (by kernel_rfl) s _ w (by decide) (ascii_of_all (by decide))
  rw [show s.data.toList = l from by rw [h.eq]] at c
  exact c

/-- The closure over the names that were: its variable in block c, the map in block m. -/
structure Were (w : World) (c m : Nat) (ah : List (List UInt8)) : Prop where
  var : w.heap[c]? = some (.cells #[.map (some m)] 91 (0, 0))
  set : SetOf w m ah
  ne : c ≠ m

theorem Were.later {w w' : World} {c m : Nat} {ah : List (List UInt8)} (h : Were w c m ah) {B : Nat} (hb : Below B w w') (hB : w.heap.size ≤ B) : Were w' c m ah :=
  ⟨(hb.block c (Nat.lt_of_lt_of_le (Array.getElem?_eq_some_iff.1 h.var).1 hB)).trans h.var, h.set.later hb hB, h.ne⟩
theorem Were.kept {w w' : World} {c m g : Nat} {ah : List (List UInt8)} (h : Were w c m ah) (hg : w.grownBy w' (some g)) (h1 : c ≠ g) (h2 : m ≠ g) : Were w' c m ah :=
  ⟨(hg.block c (Array.getElem?_eq_some_iff.1 h.var).1 (by simpa using h1)).trans h.var, h.set.kept hg (by simpa using h2), h.ne⟩
theorem Were.alloc {w : World} {c m : Nat} {ah : List (List UInt8)} (h : Were w c m ah) (o : Obj) : Were (w.alloc o) c m ah := h.later ((Below.refl w.heap.size w).alloc (Nat.le_refl _) o) (Nat.le_refl _)
theorem Were.lt {w : World} {c m : Nat} {ah : List (List UInt8)} (h : Were w c m ah) : c < w.heap.size ∧ m < w.heap.size := ⟨(Array.getElem?_eq_some_iff.1 h.var).1, h.set.lt⟩

theorem schema_namer (w : World) :
    Calls Tryd.prog 30 #[] w fun e w' => e = .returned (.func (.func 52) #[] #[.pointer (some ⟨w.heap.size + 1, 0, none⟩)]) ∧ Were w' (w.heap.size + 1) w.heap.size [] ∧ Below w.heap.size w w' := by
  have hmm := @run_makeMap Tryd.prog
  have hmf : ∀ (fn : Fn) (first cap : Array Value) (w : World), (Instr.makeFunc fn first cap).run Tryd.prog w = .ok (.func fn first cap) w := fun _ _ _ _ => rfl
  have hs := SetOf.made w
  obtain ⟨n0, n1, n2, n3⟩ := new2 w (.map #[] 0) (.cells #[.map (some w.heap.size)] 91)
  have HS := Lib.hid (hs.alloc (.cells #[.map (some w.heap.size)] 91))
  have H2 := Lib.hid n2
  have H3 := Lib.hid n3
  clear hs n0 n1 n2 n3
  go_enter Tryd.func30, Tryd.ntmps30
  go_wp2
  go_ret
  exact ⟨rfl, ⟨H2.out, HS.out, by omega⟩, H3.out⟩

theorem fine_eq (l : List UInt8) (ah : List (List UInt8)) : fine l ah = (!l.isEmpty && ((Lib.trimLeftS l lettersL).isEmpty && !ah.contains l)) := by
  unfold fine; rw [trim_letters]

theorem grown_after {w w1 w2 : World} {m : Nat} (hb : Below w.heap.size w w1) (hg : w1.grownBy w2 (some m)) : w.grownBy w2 (some m) :=
  ⟨hg.os.trans hb.os, hg.tape.trans hb.tape, hg.output.trans hb.output, Nat.le_trans hb.size hg.size, fun j hj hne => (hg.block j (Nat.lt_of_lt_of_le hj hb.size) hne).trans (hb.block j hj)⟩
theorem Were.put {w w' : World} {c m : Nat} {ah ah' : List (List UInt8)} (h : Were w c m ah) (hs : SetOf w' m ah') (hg : w.grownBy w' (some m)) : Were w' c m ah' :=
  ⟨(hg.block c (Array.getElem?_eq_some_iff.1 h.var).1 (by simpa using h.ne)).trans h.var, hs, h.ne⟩

set_option maxHeartbeats 2000000 in
theorem schema_fits (s : ByteArray) (l : List UInt8) (c m : Nat) (ah : List (List UInt8)) (w : World) (h : RdS s l) (hW : Were w c m ah) (hn : ah.length < 1000) :
    Calls Tryd.prog 52 #[.string s, .pointer (some ⟨c, 0, none⟩)] w fun e w' => e = .returned (.bool (fine l ah)) ∧ Were w' c m (ah ++ [l]) ∧ w.grownBy w' (some m) := by
  have hd : s.data.toList = l := by rw [h.eq]
  have hsm := h.small
  have hsz : s.size ≤ maxLen := by rw [h.eq]; simp [ByteArray.size]; unfold maxLen; omega
  have hemp := h.toList
  have HF := Lib.hid (fine_eq l ah)
  have HD := Lib.hid hd
  have HW := Lib.hid hW
  by_cases hl : l = []
  · have q1 : (s.toList != []) = false := by rw [hemp, hl]; rfl
    have q2 : s.toList.isEmpty = true := by rw [hemp, hl]; rfl
    have c0 := cell_of_one hW.var
    have HF2 := Lib.hid (show fine l ah = false by rw [HF.out, hl]; rfl)
    clear HF hl hemp hd hW
    go_enter Tryd.func52, Tryd.ntmps52
    go_wp2_with (at_mapUpdate; refine wpl_setName m ah HW.out.set ?_ s hsz ?_ ?_ ?_ ?_)
    · rfl
    · rfl
    · rfl
    · unfold maxLen; omega
    intro w1 hs1 hg1
    rw [HD.out] at hs1
    have HS1 := Lib.hid hs1
    have HG1 := Lib.hid hg1
    clear hs1 hg1 c0
    go_wp2
    go_ret
    exact ⟨by rw [HF2.out]; rfl, HW.out.put HS1.out HG1.out, HG1.out⟩
  · have q1 : (s.toList != []) = true := by rw [hemp]; simpa using hl
    have q2 : s.toList.isEmpty = false := by rw [hemp]; cases l <;> simp_all
    have hle : l.isEmpty = false := by cases l <;> simp_all
    have hT := lib_Letters s l w h
    obtain ⟨T, hT9⟩ : ∃ T : ByteArray, T = ⟨(Lib.trimLeftS l lettersL).toArray⟩ := ⟨_, rfl⟩
    have hTl : T.toList = Lib.trimLeftS l lettersL := by rw [hT9, Lib.toList_data]
    rw [← hT9] at hT
    by_cases htr : (Lib.trimLeftS l lettersL).isEmpty = true
    · have t1 : T.toList.isEmpty = true := by rw [hTl]; exact htr
      have t2 : (T.toList == []) = true := by rw [hTl]; simpa using htr
      have HF2 := Lib.hid (show fine l ah = !ah.contains l by rw [HF.out, hle, htr]; rfl)
      clear HF hl hemp hd hW hTl hT9 hle htr
      go_enter Tryd.func52, Tryd.ntmps52
      go_wp2_with fail
      refine hT.mono ?_
      rintro e w1 ⟨rfl, hb⟩
      have HB := Lib.hid hb
      have hW1 := HW.out.later hb (Nat.le_refl _)
      have c0 := cell_of_one hW1.var
      have hlk := hW1.set.look s hsz
      rw [HD.out] at hlk
      obtain ⟨bb, hbb⟩ : ∃ bb, bb = ah.contains l := ⟨_, rfl⟩
      rw [← hbb] at hlk
      have HBB := Lib.hid hbb
      have HW1 := Lib.hid hW1
      clear hb hW1 hbb hT
      go_wp2_with (at_mapUpdate; refine wpl_setName m ah HW1.out.set ?_ s hsz ?_ ?_ ?_ ?_)
      · rfl
      · rfl
      · rfl
      · unfold maxLen; omega
      intro w2 hs1 hg1
      rw [HD.out] at hs1
      have HS1 := Lib.hid hs1
      have HG1 := Lib.hid hg1
      clear hs1 hg1 c0 hlk
      go_wp2
      go_ret
      exact ⟨by rw [HF2.out, ← HBB.out]; rfl, HW1.out.put HS1.out HG1.out, grown_after HB.out HG1.out⟩
    · have t1 : T.toList.isEmpty = false := by rw [hTl]; simpa using htr
      have t2 : (T.toList == []) = false := by rw [hTl]; simpa using htr
      have HF2 := Lib.hid (show fine l ah = false by rw [HF.out, hle, show (Lib.trimLeftS l lettersL).isEmpty = false by simpa using htr]; rfl)
      clear HF hl hemp hd hW hTl hT9 hle htr
      go_enter Tryd.func52, Tryd.ntmps52
      go_wp2_with fail
      refine hT.mono ?_
      rintro e w1 ⟨rfl, hb⟩
      have HB := Lib.hid hb
      have hW1 := HW.out.later hb (Nat.le_refl _)
      have c0 := cell_of_one hW1.var
      have HW1 := Lib.hid hW1
      clear hb hW1 hT
      go_wp2_with (at_mapUpdate; refine wpl_setName m ah HW1.out.set ?_ s hsz ?_ ?_ ?_ ?_)
      · rfl
      · rfl
      · rfl
      · unfold maxLen; omega
      intro w2 hs1 hg1
      rw [HD.out] at hs1
      have HS1 := Lib.hid hs1
      have HG1 := Lib.hid hg1
      clear hs1 hg1 c0
      go_wp2
      go_ret
      exact ⟨by rw [HF2.out]; rfl, HW1.out.put HS1.out HG1.out, grown_after HB.out HG1.out⟩

/-- A kind that there is. -/
def kindOk (k : Int) : Bool := decide (0 ≤ k ∧ k ≤ 5)
theorem check_kind5 (k : Int) : (((checkC k 0 [] : Nat) : Int) == 0) = kindOk k := by
  unfold kindOk
  by_cases h : 0 ≤ k ∧ k ≤ 5
  · rw [decide_eq_true h]
    have : checkC k 0 [] = 0 := by
      unfold checkC
      rw [if_neg (by omega), if_neg ?_, if_neg (by simp)]
      rintro (⟨_, b⟩ | ⟨_, b⟩ | ⟨_, b⟩ | ⟨_, b⟩)
      · exact b rfl
      · exact b rfl
      · omega
      · exact absurd b (by decide +kernel)
    rw [this]; rfl
  · rw [decide_eq_false h]
    have : checkC k 0 [] = 10 := by unfold checkC; rw [if_pos (by omega)]
    rw [this]; rfl

theorem schema_isKind (k : Int) (w : World) (hT : Tabs w) :
    Calls Tryd.prog 31 #[.int .i64 k] w fun e w' => e = .returned (.bool (kindOk k)) ∧ Below w.heap.size w w' := by
  have hc := check_kind5 k
  obtain ⟨n, hn⟩ : ∃ n, n = checkC k 0 [] := ⟨_, rfl⟩
  rw [← hn] at hc
  have HC := Lib.hid hc
  have HN := Lib.hid hn
  have hcv : cellV 0 ⟨#[]⟩ = .agg #[.int .u64 0, .string ⟨#[]⟩] := rfl
  have hk := cell_Check k 0 ⟨#[]⟩ [] w ⟨rfl, by simp⟩ hT
  rw [hcv, ← hn] at hk
  clear hc hn hcv
  go_enter Tryd.func31, Tryd.ntmps31
  go_wp2_with fail
  refine hk.mono ?_
  rintro e w1 ⟨rfl, hb⟩
  have HB := Lib.hid hb
  clear hb hk
  go_wp2
  go_ret
  exact ⟨by rw [← HC.out]; rfl, HB.out⟩

end Go.Proofs.YtkljkpffpdpphaaDoor
