/-
  Package disk, the landed code.
-/
import Derived.Test.YtegaamebcoockaaDskMem
import Derived.Lib.SliceRun
import Derived.BigRegion
import Derived.WalkSmall
import Derived.WalkSpells
set_option linter.unusedVariables false
set_option linter.unusedSimpArgs false
set_option maxRecDepth 1000000
namespace Go.Proofs.Ytegaamebcoockaa
open Go.RowKit

set_option maxHeartbeats 1000000 in
theorem bytes_Clone15 (v : Value) (l : List UInt8) (w : World) (h : Rd w v l) (hn : l.length ≤ 70368744177664) :
    Calls Try.prog 20 #[v] w (RetB w l) := by
  obtain ⟨ao, cap, hv, hcap, hnil, _⟩ := h.shape
  obtain ⟨n9, hn9⟩ : ∃ n9, n9 = l.length := ⟨_, rfl⟩
  rw [← hn9] at hv hcap
  cases ao with
  | none =>
    obtain rfl : cap = 0 := hnil rfl
    obtain rfl : n9 = 0 := by omega
    obtain rfl : l = [] := List.eq_nil_of_length_eq_zero hn9.symm
    clear h hnil hcap hn9
    subst hv
    have hq := fun u : World => Lib.run_eql_slice_nil (P := Try.prog) u 22 5 none 0 0 0 0 Try.underlying22
    go_enter Try.func20, Try.ntmps20
    go_wp2
    go_ret
    exact ⟨_, rfl, own_nil _ _, Below.refl _ _⟩
  | some ad =>
    subst hv
    have hr := h.later ((Below.refl w.heap.size w).alloc (Nat.le_refl _) (.cells #[] 5)) (Nat.le_refl _)
    have ho := own_empty w w.heap.size (Nat.le_refl _)
    have hb := (Below.refl w.heap.size w).alloc (Nat.le_refl _) (.cells #[] 5)
    clear h hnil hcap hn9
    have hq := fun u : World => Lib.run_eql_slice_nil (P := Try.prog) u 22 5 (some ad) n9 cap 0 0 Try.underlying22
    go_enter Try.func20, Try.ntmps20
    go_wp2_with (with_reducible refine wpl_append w.heap.size _ [] ?hs ho _ l ?hx hr ?hn ?hbase w.heap.size w hb (Nat.le_refl _) ?_)
    case hs => rfl
    case hx => rfl
    case hn => simp; omega
    case hbase => simp
    intro v4 w4 ho4 hb4 _
    rw [List.nil_append] at ho4
    have HO4 := Lib.hid ho4
    have HB4 := Lib.hid hb4
    clear ho4 hb4 ho hb hr
    go_wp2
    go_ret
    exact ⟨_, rfl, HO4.out, HB4.out⟩

/-- What New answers. -/
def NwD (w : World) (b : List UInt8) (e : Ending) (w' : World) : Prop :=
  ∃ g v, e = .returned (.pointer (some ⟨g, 0, none⟩)) ∧ Dsk w' w.heap.size g v b b.length 0 ∧ Below w.heap.size w w'

set_option maxHeartbeats 1000000 in
theorem disk_New (v : Value) (b : List UInt8) (w : World) (h : Rd w v b) (hn : b.length ≤ 100000000) :
    Calls Try.prog 10 #[v] w (NwD w b) := by
  have CL := Lib.hid (bytes_Clone15 v b w h (by omega))
  obtain ⟨ao, cap, rfl, _⟩ := h.shape
  have hlen := h.len
  clear h
  go_enter Try.func10, Try.ntmps10
  go_wp2_with fail
  refine CL.out.mono ?_
  rintro e w1 ⟨v1, rfl, ho, hb⟩
  obtain ⟨a1, n1, rfl, _⟩ := ho.tor.lit
  have HO := Lib.hid ho
  have HB := Lib.hid hb
  clear ho hb CL
  go_wp2
  go_ret
  have N := (Below.refl w1.heap.size w1).alloc (Nat.le_refl _) (.cells #[.slice a1 b.length n1, .int .i64 (b.length : Int), .int .i64 0] 45)
  exact ⟨_, _, rfl, ⟨HB.out.size, (HO.out.later N (Nat.le_refl _)).tor, Nat.le_refl _, hn, by omega, heap_alloc_new _ _⟩, HB.out.trans (N.mono HB.out.size)⟩

/-- What a call that turns a disk leaves. -/
def DkO (w : World) (N g : Nat) (v : Value) (l : List UInt8) (s c : Nat) (x : Nat) (e : Ending) (w' : World) : Prop :=
  e = .returned (.int .i64 (x : Int)) ∧ ∃ v', Dsk w' N g v' l s c ∧ Only (DskQ g v) w w' ∧ Plc w v v'

set_option maxHeartbeats 1000000 in
theorem disk_Append (N g : Nat) (v : Value) (l : List UInt8) (s c : Nat) (bv : Value) (b : List UInt8) (w : World) (h : Dsk w N g v l s c) (hb : Rd w bv b) (hn : l.length + b.length ≤ 100000000) :
    Calls Try.prog 11 #[.pointer (some ⟨g, 0, none⟩), bv] w (DkO w N g v (l ++ b) s c 0) := by
  obtain ⟨ao, cap, rfl, _⟩ := h.tor.lit
  obtain ⟨ab, cb, rfl, _⟩ := hb.shape
  obtain ⟨c0, c1, c2⟩ := h.cells
  have HD := Lib.hid h
  have HR := Lib.hid hb
  clear h hb c1 c2
  go_enter Try.func11, Try.ntmps11
  go_wp2_with (with_reducible refine wplD_append N _ l ?hs HD.out.tor _ b ?hx HR.out ?hn ?hbase ?_)
  case hs => rfl
  case hx => rfl
  case hn => omega
  case hbase => have := HD.out.from_; have := HD.out.lt; omega
  intro v4 w4 ht hg hp
  obtain ⟨a4, n4, rfl, _⟩ := ht.lit
  rw [List.length_append] at ht hp
  have HT := Lib.hid ht
  have HG := Lib.hid hg
  have HP := Lib.hid hp
  have hbox := (hg.block g HD.out.lt (fun e => HD.out.away e.symm)).trans HD.out.box
  have d0 : w4.cell? ⟨g, 0, none⟩ = some (.slice ao l.length cap) := by rw [cell_of_row _ _ _ _ _ _ hbox]; rfl
  have f0 : w4.frozen? ⟨g, 0, none⟩ = false := frozen_of_row _ _ _ _ _ hbox
  have HX := Lib.hid hbox
  clear ht hg hp hbox
  go_wp2
  go_ret
  have hv4 : ∀ q, (Value.slice a4 (l.length + b.length) n4).ownBlock = some q → ¬ q = g := fun q hq e => by
    rw [e] at hq
    obtain ⟨cur, hc⟩ := HT.out.type hq
    rw [HX.out] at hc
    injection hc with hc
    injection hc with _ hc _
    exact absurd hc (by decide)
  have hO : Only (fun q => q = g) w4 (w4.setCell ⟨g, 0, none⟩ (.slice a4 (l.length + b.length) n4)) := (Only.refl (fun q => q = g) _).setCell (p := ⟨g, 0, none⟩) rfl _
  refine ⟨rfl, _, ⟨HD.out.from_, HT.out.only hO hv4, by rw [List.length_append]; have := HD.out.safe; omega, by rw [List.length_append]; exact hn, HD.out.few, ?_⟩, (Only.by15 HG.out fun q hq => .inr hq).trans (hO.mono fun q hq => .inl hq), HP.out⟩
  exact block_setCell HX.out _

set_option maxHeartbeats 1000000 in
theorem disk_Sync (N g : Nat) (v : Value) (l : List UInt8) (s c : Nat) (w : World) (h : Dsk w N g v l s c) :
    Calls Try.prog 13 #[.pointer (some ⟨g, 0, none⟩)] w (DkO w N g v l l.length c 0) := by
  obtain ⟨ao, cap, rfl, _⟩ := h.tor.lit
  obtain ⟨c0, c1, c2⟩ := h.cells
  have f1 := h.free 1
  have hlen := h.rd.len
  have HD := Lib.hid h
  clear h c2
  go_enter Try.func13, Try.ntmps13
  go_wp2
  go_ret
  have hO : Only (fun q => q = g) w (w.setCell ⟨g, 1, none⟩ (.int .i64 (l.length : Int))) := (Only.refl (fun q => q = g) _).setCell (p := ⟨g, 1, none⟩) rfl _
  exact ⟨rfl, _, ⟨HD.out.from_, HD.out.tor.only hO fun q hq e => HD.out.away (by rw [hq, e]), Nat.le_refl _, HD.out.small, HD.out.few, block_setCell HD.out.box _⟩, hO.mono fun q hq => .inl hq, Plc.refl _ _⟩

set_option maxHeartbeats 1000000 in
theorem disk_Bytes (N g : Nat) (v : Value) (l : List UInt8) (s c : Nat) (w : World) (h : Dsk w N g v l s c) :
    Calls Try.prog 16 #[.pointer (some ⟨g, 0, none⟩)] w (RetB w l) := by
  have CL := Lib.hid (bytes_Clone15 v l w h.rd (by have := h.small; omega))
  obtain ⟨ao, cap, rfl, _⟩ := h.tor.lit
  obtain ⟨c0, c1, c2⟩ := h.cells
  clear h c1 c2
  go_enter Try.func16, Try.ntmps16
  go_wp2_with fail
  refine CL.out.mono ?_
  rintro e w1 ⟨v1, rfl, ho, hb⟩
  have HO := Lib.hid ho
  have HB := Lib.hid hb
  clear ho hb CL
  go_wp2
  go_ret
  exact ⟨_, rfl, HO.out, HB.out⟩

theorem disk_Safe (N g : Nat) (v : Value) (l : List UInt8) (s c : Nat) (w : World) (h : Dsk w N g v l s c) :
    Calls Try.prog 18 #[.pointer (some ⟨g, 0, none⟩)] w fun e w' => e = .returned (.int .i64 (s : Int)) ∧ w' = w := by
  obtain ⟨c0, c1, c2⟩ := h.cells
  clear h c0 c2
  go_enter Try.func18, Try.ntmps18
  go_wp2
  go_ret
  exact ⟨rfl, rfl⟩

theorem disk_Crashes (N g : Nat) (v : Value) (l : List UInt8) (s c : Nat) (w : World) (h : Dsk w N g v l s c) :
    Calls Try.prog 19 #[.pointer (some ⟨g, 0, none⟩)] w fun e w' => e = .returned (.int .i64 (c : Int)) ∧ w' = w := by
  obtain ⟨c0, c1, c2⟩ := h.cells
  clear h c0 c1
  go_enter Try.func19, Try.ntmps19
  go_wp2
  go_ret
  exact ⟨rfl, rfl⟩

/-- Of no disk. -/
theorem none_Append15 (bv : Value) (w : World) : Calls Try.prog 11 #[.pointer none, bv] w fun e w' => e = .returned (.int .i64 1) ∧ w' = w := by
  go_enter Try.func11, Try.ntmps11
  go_wp2
  go_ret
  exact ⟨rfl, rfl⟩
theorem none_Sync15 (w : World) : Calls Try.prog 13 #[.pointer none] w fun e w' => e = .returned (.int .i64 1) ∧ w' = w := by
  go_enter Try.func13, Try.ntmps13
  go_wp2
  go_ret
  exact ⟨rfl, rfl⟩
theorem none_Crash15 (k jv : Value) (w : World) : Calls Try.prog 14 #[.pointer none, k, jv] w fun e w' => e = .returned (.int .i64 1) ∧ w' = w := by
  go_enter Try.func14, Try.ntmps14
  go_wp2
  go_ret
  exact ⟨rfl, rfl⟩
theorem none_Bytes15 (w : World) : Calls Try.prog 16 #[.pointer none] w fun e w' => e = .returned (.slice none 0 0) ∧ w' = w := by
  go_enter Try.func16, Try.ntmps16
  go_wp2
  go_ret
  exact ⟨rfl, rfl⟩
theorem none_Safe15 (w : World) : Calls Try.prog 18 #[.pointer none] w fun e w' => e = .returned (.int .i64 0) ∧ w' = w := by
  go_enter Try.func18, Try.ntmps18
  go_wp2
  go_ret
  exact ⟨rfl, rfl⟩
theorem none_Crashes15 (w : World) : Calls Try.prog 19 #[.pointer none] w fun e w' => e = .returned (.int .i64 0) ∧ w' = w := by
  go_enter Try.func19, Try.ntmps19
  go_wp2
  go_ret
  exact ⟨rfl, rfl⟩

theorem below_setCell15 (w : World) (p : Addr) (u : Value) (m : Nat) : Below p.block w ((w.drewN m).setCell p u) := (Go.below_drewN (Below.refl p.block w) m).setCell (Nat.le_refl _) _

/-- Crash's error: of so many bytes that aren't safe, so many to keep, so many of junk. -/
def crE (n : Nat) (k : Int) (m : Nat) : Nat := if k < 0 ∨ (n : Int) < k then 3 else if (n : Int) < k + m then 7 else 0
/-- The bytes, how many are safe, and how many crashes, behind one. -/
def crL (l : List UInt8) (s : Nat) (k : Int) (j : List UInt8) : List UInt8 := if crE (l.length - s) k j.length = 0 then l.take (s + k.toNat) ++ j else l
def crS (l : List UInt8) (s : Nat) (k : Int) (j : List UInt8) : Nat := if crE (l.length - s) k j.length = 0 then s + k.toNat + j.length else s
def crC (l : List UInt8) (s : Nat) (k : Int) (j : List UInt8) (c : Nat) : Nat := if crE (l.length - s) k j.length = 0 then c + 1 else c

theorem tor_cut {w' : World} {base : Nat} {g cap : Nat} {l : List UInt8} {cur : Array Value} {x : Nat} {j : List UInt8} (hx : x + j.length ≤ l.length) (hbg : base ≤ g) (hn : l.length ≤ cap) (hm : cap ≤ maxLen) (hs : cap ≤ cur.size) (ht : cur.toList.take l.length = cellsB l)
    (hg : w'.heap[g]? = some (.cells (splice cur.toList x (cellsB j)).toArray 5 (0, 0))) : Tor w' base (.slice (some ⟨g, 0, none⟩) (x + j.length) (x + j.length)) (l.take x ++ j) := by
  have e : (l.take x ++ j).length = x + j.length := by rw [List.length_append, List.length_take]; omega
  have hcl : cur.toList.length = cur.size := Array.length_toList
  refine .inr ⟨g, x + j.length, _, by rw [e], hbg, hg, by rw [e]; exact Nat.le_refl _, by omega, ?_, ?_⟩
  · rw [List.size_toArray, length_splice _ _ _ (by rw [cellsB_length]; omega)]; omega
  · rw [e, cellsB_append]
    have e2 : (cellsB (l.take x)).length = x := by rw [cellsB_length, List.length_take]; omega
    have e3 : cur.toList.take x = cellsB (l.take x) := by
      have h1 := congrArg (List.take x) ht
      rw [List.take_take, Nat.min_eq_left (by omega)] at h1
      rw [h1]
      simp [cellsB]
    unfold splice
    rw [e3, ← List.append_assoc]
    refine List.take_left' ?_
    rw [List.length_append, e2, cellsB_length]

set_option maxHeartbeats 4000000 in
theorem disk_Crash (N g : Nat) (v : Value) (l : List UInt8) (s c : Nat) (k : Int) (jv : Value) (j : List UInt8) (w : World) (h : Dsk w N g v l s c) (hj0 : OffB w jv j (DskQ g v)) (hk : -9223372036854775808 ≤ k ∧ k ≤ 9223372036854775807) (hc : c < 1000000) :
    Calls Try.prog 14 #[.pointer (some ⟨g, 0, none⟩), .int .i64 k, jv] w (DkO w N g v (crL l s k j) (crS l s k j) (crC l s k j c) (crE (l.length - s) k j.length)) := by
  have hj := hj0.1
  obtain ⟨aj, cj, rfl, hcj, hjn, hjs⟩ := hj.shape
  have hjl := hj.len
  have hlen := h.rd.len
  have hsafe := h.safe
  have hsmall := h.small
  have hjsm := hj.small
  have HD := Lib.hid h
  have HJ := Lib.hid (fun m u => (hj0.only (S := DskQ g v) ((Only.later15 (Go.below_drewN (Below.refl w.heap.size w) m)).setCell (p := ⟨g, 0, none⟩) (.inl rfl) u) (fun _ h => h)).1)
  clear hj0 hcj hjn hjs
  unfold crL crS crC
  by_cases h1 : k < 0 ∨ ((l.length - s : Nat) : Int) < k
  · have hE : crE (l.length - s) k j.length = 3 := if_pos h1
    rw [hE, if_neg (by decide), if_neg (by decide), if_neg (by decide)]
    obtain ⟨ao, cap, rfl, _⟩ := h.tor.lit
    obtain ⟨c0, c1, c2⟩ := h.cells
    have fin : ∀ m, DkO w N g (.slice ao l.length cap) l s c 3 (.returned (.int .i64 3)) (w.drewN m) := fun m =>
      have hb := Go.below_drewN (Below.refl w.heap.size w) m
      ⟨rfl, _, HD.out.later hb, Only.later15 hb, Plc.refl _ _⟩
    have FIN := Lib.hid fin
    clear h hj hE c2 fin
    go_enter Try.func14, Try.ntmps14
    go_wp2
    go_quiet (fail)
    by_cases hk0 : k < 0
    · go_wp2
      go_ret
      exact FIN.out _
    · have hk1 : (l.length : Int) - (s : Int) < k := by omega
      go_wp2
      go_ret
      exact FIN.out _
  · obtain ⟨kk, rfl⟩ : ∃ kk : Nat, k = (kk : Int) := ⟨k.toNat, by omega⟩
    have hkk : s + kk ≤ l.length := by omega
    by_cases h2 : ((l.length - s : Nat) : Int) < (kk : Int) + (j.length : Int)
    · have hE : crE (l.length - s) (kk : Int) j.length = 7 := by unfold crE; rw [if_neg h1, if_pos h2]
      rw [hE, if_neg (by decide), if_neg (by decide), if_neg (by decide)]
      obtain ⟨ao, cap, rfl, _⟩ := h.tor.lit
      obtain ⟨c0, c1, c2⟩ := h.cells
      have fin : ∀ m, DkO w N g (.slice ao l.length cap) l s c 7 (.returned (.int .i64 7)) (w.drewN m) := fun m =>
        have hb := Go.below_drewN (Below.refl w.heap.size w) m
        ⟨rfl, _, HD.out.later hb, Only.later15 hb, Plc.refl _ _⟩
      have FIN := Lib.hid fin
      clear h hj hE c2 fin h1
      go_enter Try.func14, Try.ntmps14
      go_wp2
      go_quiet (fail)
      go_wp2
      go_ret
      exact FIN.out _
    · have hE : crE (l.length - s) (kk : Int) j.length = 0 := by unfold crE; rw [if_neg h1, if_neg h2]
      rw [hE, if_pos rfl, if_pos rfl, if_pos rfl, Int.toNat_natCast]
      have hfit : s + kk + j.length ≤ l.length := by omega
      obtain ⟨c0, c1, c2⟩ := h.cells
      have f0 := h.free 0
      have f1 := h.free 1
      have f2 := h.free 2
      have hcc : (c : Int) + 1 ≤ 1000000 := by omega
      have hT := HD.out.tor
      rcases hT with ⟨rfl, rfl⟩ | ⟨b, cap, cur, rfl, hNb, hb, hlc, hmx, hcs, hcur⟩
      · simp only [List.length_nil] at hfit
        obtain rfl : j = [] := List.eq_nil_of_length_eq_zero (by omega)
        obtain rfl : s = 0 := by omega
        obtain rfl : kk = 0 := by omega
        have hsl : ∀ u, (Instr.slice 22 (.slice none 0 0) none (some (.int .i64 0)) (some (.int .i64 0))).run Try.prog u = .ok (.slice none 0 0) u := fun u => by
          have := run_slice_hm (P := Try.prog) u 22 none 0 0 Try.underlying22 .i64 .i64 0 0 (by omega) (by omega) (by omega)
          rw [this]
          simp [go_sem, Result.andThen, sliced]
        have hsf : ∀ u, (Instr.slice 22 (.slice none 0 0) (some (.int .i64 0)) none none).run Try.prog u = .ok (.slice none 0 0) u := fun u => by
          have := run_slice_l (P := Try.prog) u 22 none 0 0 Try.underlying22 .i64 0 (by omega) (by omega)
          rw [this]
          simp [go_sem, Result.andThen, sliced]
        have fin : ∀ m, DkO w N g (.slice none 0 0) (List.take 0 [] ++ []) 0 (c + 1) 0 (.returned (.int .i64 0)) ((((w.drewN m).setCell ⟨g, 0, none⟩ (.slice none 0 0)).setCell ⟨g, 1, none⟩ (.int .i64 0)).setCell ⟨g, 2, none⟩ (.int .i64 ((c : Int) + 1))) := fun m => by
          have hO : Only (fun q => q = g) w ((((w.drewN m).setCell ⟨g, 0, none⟩ (.slice none 0 0)).setCell ⟨g, 1, none⟩ (.int .i64 0)).setCell ⟨g, 2, none⟩ (.int .i64 ((c : Int) + 1))) :=
            (((Only.later15 (S := fun q => q = g) (Go.below_drewN (Below.refl w.heap.size w) m)).setCell (p := ⟨g, 0, none⟩) rfl _).setCell (p := ⟨g, 1, none⟩) rfl _).setCell (p := ⟨g, 2, none⟩) rfl _
          exact ⟨rfl, _, ⟨HD.out.from_, .inl ⟨rfl, rfl⟩, Nat.zero_le _, Nat.zero_le _, hc, block_setCell (block_setCell (block_setCell (w := w.drewN m) HD.out.box _) _) _⟩, hO.mono fun q hq => .inl hq, Plc.refl _ _⟩
        have FIN := Lib.hid fin
        clear h hj hE h1 h2 fin
        simp only [List.length_nil] at *
        go_enter Try.func14, Try.ntmps14
        go_wp2
        go_quiet (fail)
        obtain ⟨m, hm⟩ : ∃ m, m = (2 : Nat) := ⟨_, rfl⟩
        go_wp2_with (with_reducible refine wpList_copy_nothing rfl _ _ 22 22 rfl 5 Try.underlying22 size_u8 none aj 0 0 0 cj ?hd ?hs (by simp) ?_)
        case hd => rfl
        case hs => rfl
        go_wp2
        go_ret
        exact FIN.out _
      · obtain ⟨dp, hsf, hdp, _⟩ := slice_from (some ⟨b, 0, none⟩) (s + kk + j.length) (s + kk + j.length) (s + kk) (by omega) (Nat.le_refl _)
        have hsl : ∀ u, (Instr.slice 22 (.slice (some ⟨b, 0, none⟩) l.length cap) none (some (.int .i64 ((s : Int) + (kk : Int) + (j.length : Int)))) (some (.int .i64 ((s : Int) + (kk : Int) + (j.length : Int))))).run Try.prog u = .ok (.slice (some ⟨b, 0, none⟩) (s + kk + j.length) (s + kk + j.length)) u := fun u => by
          rw [run_slice_hm (P := Try.prog) u 22 (some ⟨b, 0, none⟩) l.length cap Try.underlying22 .i64 .i64 ((s : Int) + (kk : Int) + (j.length : Int)) ((s : Int) + (kk : Int) + (j.length : Int)) (by omega) (by omega) (by omega)]
          rw [show (((s : Int) + (kk : Int) + (j.length : Int))).toNat = s + kk + j.length from by omega]
          simp [go_sem, Result.andThen, sliced]
        rw [show ((s + kk : Nat) : Int) = (s : Int) + (kk : Int) from by omega] at hsf
        rw [show s + kk + j.length - (s + kk) = j.length from by omega] at hsf
        have d1 : decide ((kk : Int) > (l.length : Int) - (s : Int)) = false := decide_eq_false (by omega)
        have d2 : decide ((j.length : Int) > (l.length : Int) - (s : Int) - (kk : Int)) = false := decide_eq_false (by omega)
        have HE := Lib.hid hE
        have HDP := Lib.hid (show 0 < j.length → dp = some ⟨b, s + kk, none⟩ from fun hp => by have := hdp b 0 rfl (by omega); rwa [Nat.zero_add] at this)
        have HBX := Lib.hid (And.intro hNb (And.intro hb (And.intro hlc (And.intro hmx (And.intro hcs hcur)))))
        have HCC := Lib.hid hc
        have hbg : b ≠ g := fun e => HD.out.away (by rw [e]; rfl)
        have HBG := Lib.hid hbg
        have HBM := Lib.hid (fun m u => show ((w.drewN m).setCell ⟨g, 0, none⟩ u).heap[b]? = some (.cells cur 5 (0, 0)) from (Below.heap_setCell _ _ _ _ hbg).trans hb)
        have HFT := Lib.hid hfit
        clear h hj hE h1 h2 hdp hNb hb hlc hmx hcs hcur hk hc hjsm hcc hbg
        go_enter Try.func14, Try.ntmps14
        go_wp2
        go_quiet (fail)
        go_wp2_with (with_reducible refine wplD_copy dp j.length j.length ?hd _ j ?hs (HJ.out _ _) (Nat.le_refl _) b (s + kk) cur (HBM.out _ _) HDP.out ?hf ?_)
        case hd => rfl
        case hs => rfl
        case hf => have := HBX.out.2.2.2.2.1; have := HBX.out.2.2.1; have := HFT.out; omega
        intro w5 hcp hgr
        have HG5 := Lib.hid hgr
        have hbox : w5.heap[g]? = some (.cells #[.slice (some ⟨b, 0, none⟩) (s + kk + j.length) (s + kk + j.length), .int .i64 (s : Int), .int .i64 (c : Int)] 45 (0, 0)) :=
          (hgr.block g (by simp [World.setCell]; exact HD.out.lt) (fun e => HBG.out (by injection e with e; exact e.symm))).trans (block_setCell (w := w.drewN nq) HD.out.box _)
        have d1 : w5.cell? ⟨g, 1, none⟩ = some (.int .i64 (s : Int)) := by rw [cell_of_row _ _ _ _ _ _ hbox]; rfl
        have d2 : w5.cell? ⟨g, 2, none⟩ = some (.int .i64 (c : Int)) := by rw [cell_of_row _ _ _ _ _ _ hbox]; rfl
        have g1 : w5.frozen? ⟨g, 1, none⟩ = false := frozen_of_row _ _ _ _ _ hbox
        have g2 : w5.frozen? ⟨g, 2, none⟩ = false := frozen_of_row _ _ _ _ _ hbox
        have HX := Lib.hid hbox
        clear hgr hbox c0 c1 c2 f0 f1 f2
        have hc := HCC.out
        go_wp2
        go_ret
        obtain ⟨hNb, hb, hlc, hmx, hcs, hcur⟩ := HBX.out
        have hO1 : Only (DskQ g (.slice (some ⟨b, 0, none⟩) l.length cap)) w w5 := ((Only.later15 (Go.below_drewN (Below.refl w.heap.size w) nq)).setCell (p := ⟨g, 0, none⟩) (.inl rfl) _).trans (Only.by15 HG5.out fun q hq => .inr hq)
        have hO2 : Only (fun q => q = g) w5 ((w5.setCell ⟨g, 1, none⟩ (.int .i64 ((s : Int) + (kk : Int) + (j.length : Int)))).setCell ⟨g, 2, none⟩ (.int .i64 ((c : Int) + 1))) :=
          ((Only.refl (fun q => q = g) _).setCell (p := ⟨g, 1, none⟩) rfl _).setCell (p := ⟨g, 2, none⟩) rfl _
        have hle : (l.take (s + kk) ++ j).length = s + kk + j.length := by rw [List.length_append, List.length_take]; omega
        refine ⟨rfl, .slice (some ⟨b, 0, none⟩) (s + kk + j.length) (s + kk + j.length), ⟨HD.out.from_, tor_cut hfit hNb hlc hmx hcs hcur (hO2.keep hcp.out fun e => HBG.out e), by rw [hle]; exact Nat.le_refl _, by rw [hle]; omega, hc, ?_⟩, hO1.trans (hO2.mono fun q hq => .inl hq), fun q hq => .inl hq⟩
        have := block_setCell (k := 2) (block_setCell (k := 1) HX.out (.int .i64 ((s : Int) + (kk : Int) + (j.length : Int)))) (.int .i64 ((c : Int) + 1))
        refine this.trans ?_
        rfl

end Go.Proofs.Ytegaamebcoockaa
