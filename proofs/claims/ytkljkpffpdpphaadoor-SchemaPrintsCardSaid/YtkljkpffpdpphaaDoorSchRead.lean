/-
  Package schema: Read.
-/
import Derived.Test.YtkljkpffpdpphaaDoorSchTake
set_option linter.unusedVariables false
set_option linter.unusedSimpArgs false
set_option maxRecDepth 1000000
namespace Go.Proofs.YtkljkpffpdpphaaDoor
open Go.RowKit Go.Shelf

theorem Only.trans' {S T : Nat → Prop} {a b c : World} (h : Only S a b) (k : Only T b c) (hT : ∀ j, T j → S j) : Only S a c := h.trans (k.mono hT)

theorem OwnC.only {w w' : World} {base : Nat} {v : Value} {cs : List ColB} {S : Nat → Prop} (h : OwnC w base v cs) (hO : Only S w w') (hq : ∀ q, base ≤ q → ¬ S q) : OwnC w' base v cs := by
  refine ⟨⟨h.1.1, ?_⟩, h.2⟩
  rcases h.1.2 with h2 | ⟨g, cap, cur, rfl, hbg, hg, r⟩
  · exact .inl h2
  · exact .inr ⟨g, cap, cur, rfl, hbg, hO.keep hg (hq g hbg), r⟩

/-- What Run's closure leaves, in the variable in block c. -/
def ReadP (wR : World) (c : Nat) (l : List UInt8) (g k x : Nat) (a : World) : Prop :=
  Only (fun j => j = c ∨ wR.heap.size ≤ j) wR a ∧ ((x = 0 ∧ ∃ tv cs, a.heap[c]? = some (.cells #[tv] 22 (0, 0)) ∧ OwnC a (wR.heap.size + 4) tv cs ∧ CS cs ∧ rdTake l = (colsL cs, k, 0)) ∨ (x ≠ 0 ∧ rdTake l = ([], k, x)))

theorem enters_read1 (args : Array Value) (u : World) : (callFunc 38 args).run Tryd.prog u = .ok (.enter 38 args) u := enters_fn Tryd.func38 (by kernel_rfl) rfl args u

theorem schema_Read1 (wR : World) (g c : Nat) (v : Value) (l : List UInt8) (w : World) (hR : Rdr w g v l 0) (hc : w.heap[c]? = some (.cells #[.slice none 0 0] 22 (0, 0))) (hT : Tabs w) (hg : tabTop ≤ g)
    (hcR : c < wR.heap.size) (hgR : wR.heap.size ≤ g) (hsz : wR.heap.size + 4 ≤ w.heap.size) (hb : Below wR.heap.size wR w) (hv : ∀ i, i < l.length → (adr v i).block ≠ c) :
    Calls Tryd.prog 38 #[.pointer (some ⟨g, 0, none⟩), .pointer (some ⟨c, 0, none⟩)] w fun e w2 => ∃ k x, Kept wR.heap.size g w w2 ∧ ReadP wR c l g k x w2 ∧ Went g v l k x e w2 := by
  have hcw : c < w.heap.size := by omega
  have HC := Lib.hid hc
  go_enter Tryd.func38, Tryd.ntmps38
  go_wp2_with fail
  refine (schema_take g v l w hR hT hg).mono ?_
  rintro e w2 ⟨hO, k, x, ⟨rfl, tv, cs, rfl, hown, hcs, h8, hrt, hR2⟩ | ⟨hx, rfl, hrt, hE⟩⟩
  · obtain ⟨ao, cap, htv, _⟩ := RdG.shape (hown.rd (by omega))
    obtain ⟨tl, htl⟩ : ∃ tl, tl = (cs.map colV).length := ⟨_, rfl⟩
    rw [← htl] at htv
    subst htv
    clear htl
    have q2 := hO.keep HC.out (by omega)
    have c0 := cell_of_one q2
    have c1 := free_of_one q2
    have HQ := Lib.hid q2
    have HO := Lib.hid hO
    have HN := Lib.hid hown
    have HRT := Lib.hid hrt
    have HR2 := Lib.hid hR2
    have hs2 := hO.size
    clear q2 hO hown hrt hR2
    go_wp2
    go_end0
    have hset := one_setCell (u := .slice ao tl cap) HQ.out
    have hgs : w2.grownBy (w2.setCell ⟨c, 0, none⟩ (.slice ao tl cap)) (some c) := grown_setCell (World.grownBy.refl _ _) _
    refine ⟨k, 0, ?_, ⟨?_, .inl ⟨rfl, _, cs, hset, ?_, hcs, HRT.out⟩⟩, .inl ⟨rfl, rfl, ?_⟩⟩
    · exact (HO.out.kept (fun j hj => .inr hj)).setCell hcR _
    · refine (((Only.refl _ wR).below hb (Nat.le_refl _)).trans' HO.out (fun j hj => ?_)).setCell (p := ⟨c, 0, none⟩) (.inl rfl) _
      exact .inr (by omega)
    · exact (HN.out.grown hgs (fun q hq => by have := (OwnC.lt HN.out hq).1; simp; omega)).lower hsz
    · exact HR2.out.setVar (p := ⟨c, 0, none⟩) (by dsimp only; omega) hv _
  · have HO := Lib.hid hO
    have HE := Lib.hid hE
    have HRT := Lib.hid hrt
    clear hO hE hrt
    go_wp2
    refine ⟨rfl, k, x, HO.out.kept (fun j hj => .inr hj), ⟨?_, .inr ⟨hx, HRT.out⟩⟩, .inr ⟨hx, rfl, HE.out⟩⟩
    exact ((Only.refl _ wR).below hb (Nat.le_refl _)).trans' HO.out (fun j hj => .inr (by omega))

/-- What is told of bytes: why there is no schema, and the schema. -/
def readE (l : List UInt8) : Nat := told l (rdTake l).2.1 (rdTake l).2.2
def readC (l : List UInt8) : List Col := if readE l = 0 then (rdTake l).1 else []
/-- What Read answers. -/
def RdO (w : World) (l : List UInt8) (e : Ending) (w' : World) : Prop :=
  Below w.heap.size w w' ∧ ∃ tv cs, e = .returned (.tuple #[tv, .int .i64 ((rdTake l).2.1 : Int), .int .i64 (readE l : Int)]) ∧ OwnC w' w.heap.size tv cs ∧ CS cs ∧ cs.length ≤ 8 ∧ colsL cs = readC l

theorem rdTake_len (l : List UInt8) : ∀ (m : Nat) (acc : List Col) (k : Nat), (rdCols l m acc k).1.length ≤ acc.length + m
  | 0, acc, k => by rw [rdCols]; simp
  | m + 1, acc, k => by
    rw [rdCols]
    split
    · simp
    · have := rdTake_len l m (acc ++ [(rdCol l (names acc) k).1]) (rdCol l (names acc) k).2.1
      simp at this
      omega
theorem rdTake_le (l : List UInt8) : (rdTake l).1.length ≤ 8 := by
  unfold rdTake
  split
  · simp
  · split
    · simp
    · rename_i h1 h2
      have h3 := rdTake_len l (rdU l 0 8).1 [] (rdU l 0 8).2.1
      obtain ⟨_, h4, h5, _⟩ := rdU_ok (l := l) (k := 0) (most := 8) (Nat.zero_le _) (Decidable.of_not_not h1)
      have : (rdU l 0 8).1 ≤ 8 := by rw [h5]; dsimp only; omega
      simp at h3
      omega

set_option maxHeartbeats 4000000 in
theorem schema_Read (v : Value) (l : List UInt8) (w : World) (h : Rd w v l) (hT : Tabs w) :
    Calls Tryd.prog 20 #[v] w (RdO w l) := by
  have hmf : ∀ (fn : Fn) (first cap : Array Value) (w : World), (Instr.makeFunc fn first cap).run Tryd.prog w = .ok (.func fn first cap) w := fun _ _ _ _ => rfl
  obtain ⟨N0, N1, N2⟩ := new1 w (.cells #[.slice none 0 0] 22)
  obtain ⟨w0, hw0⟩ : ∃ w0, w0 = w.alloc (.cells #[.slice none 0 0] 22) := ⟨_, rfl⟩
  rw [← hw0] at N0 N1 N2
  have HW0 := Lib.hid hw0
  have htl := tabs_lt hT
  have HB0 := Lib.hid N2
  have HC0 := Lib.hid N1
  have hR0 := h.later N2 (Nat.le_refl _)
  have hvb := fun i (hi : i < l.length) => h.block hi
  have HT0 := Lib.hid (hT.later N2)
  obtain ⟨cb, hcb⟩ : ∃ cb, cb = w.heap.size := ⟨_, rfl⟩
  rw [← hcb] at N0 HC0 hvb htl
  have HCB := Lib.hid hcb
  clear hw0 N1 N2 h hT hcb
  have hrun := reader_RunK 38 enters_read1 #[.pointer (some ⟨cb, 0, none⟩)] v l w0 hR0 (ReadP w0 cb l) (fun g k x a b hp hs hO => by
    obtain ⟨h1, h2⟩ := hp
    refine ⟨h1.trans' hO (fun j hj => .inr (by omega)), ?_⟩
    rcases h2 with ⟨hx, tv, cs, q1, q2, q3, q4⟩ | h2
    · exact .inl ⟨hx, tv, cs, hO.keep q1 (by omega), q2.only hO (fun q hq => by omega), q3, q4⟩
    · exact .inr h2) (fun g w1 h1 h2 h3 hb hR => by
    have := schema_Read1 w0 g cb v l w1 hR ((hb.block cb (by omega)).trans HC0.out) (HT0.out.later hb) (by omega) (by omega) h1 h2 hb (fun i hi => by have := hvb i hi; omega)
    exact this)
  have HRUN := Lib.hid hrun
  have hw0s : w0.heap.size = cb + 1 := N0
  clear hrun hR0 hvb N0
  go_enter Tryd.func20, Tryd.ntmps20
  go_wp2_with fail
  rw [← HW0.out, ← HCB.out]
  refine HRUN.out.mono ?_
  rintro e w2 ⟨g, k, x, hk, hg, ⟨hO, hp⟩, hsh, rfl⟩
  have HB2 := Lib.hid (show Below w.heap.size w w2 from HB0.out.trans (hO.toBelow (fun j hj => by have := HCB.out; omega) (by have := HCB.out; omega)))
  have hs2 := hO.size
  rcases hp with ⟨rfl, tv, cs, hq, hown, hcs, hrt⟩ | ⟨hx, hrt⟩
  · have hrl := rdTake_le l
    rw [hrt] at hrl
    dsimp only at hrl
    rw [colsL_length] at hrl
    by_cases hkl : k < l.length
    · have ht : told l k 0 = 7 := by unfold told; rw [if_pos rfl, if_pos hkl]
      have HRE := Lib.hid (show readE l = 7 by unfold readE; rw [hrt]; exact ht)
      have HRT := Lib.hid hrt
      rw [ht]
      clear hO hrt hq hown hsh ht
      go_wp2
      go_ret3
      refine ⟨HB2.out, _, [], by rw [HRT.out, HRE.out]; rfl, OwnC.nil _ _, fun c hc => absurd hc (by simp), by simp, ?_⟩
      unfold readC; rw [HRE.out]; rfl
    · have ht : told l k 0 = 0 := by unfold told; rw [if_pos rfl, if_neg hkl]
      have HRE := Lib.hid (show readE l = 0 by unfold readE; rw [hrt]; exact ht)
      have HRT := Lib.hid hrt
      have HOWN := Lib.hid (hown.lower (b' := w.heap.size) (by have := HCB.out; omega))
      rw [ht]
      have c0 := cell_of_one hq
      clear hO hrt hq hown hsh ht
      go_wp2
      go_ret3
      refine ⟨HB2.out, tv, cs, by rw [HRT.out, HRE.out]; rfl, HOWN.out, hcs, hrl, ?_⟩
      unfold readC; rw [HRE.out, if_pos rfl, HRT.out]
  · have ht : told l k x = x := by unfold told; rw [if_neg hx]
    have HRE := Lib.hid (show readE l = x by unfold readE; rw [hrt]; exact ht)
    have HRT := Lib.hid hrt
    have hne : ((x : Int) != 0) = true := by rw [bne_iff_ne]; omega
    rw [ht]
    clear hO hrt hsh ht
    go_wp2
    go_ret3
    refine ⟨HB2.out, _, [], by rw [HRT.out, HRE.out]; rfl, OwnC.nil _ _, fun c hc => absurd hc (by simp), by simp, ?_⟩
    unfold readC; rw [HRE.out, if_neg hx]; rfl

end Go.Proofs.YtkljkpffpdpphaaDoor
