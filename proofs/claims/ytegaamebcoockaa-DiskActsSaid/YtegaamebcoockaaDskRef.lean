/-
  The document's own disk, walked.
-/
import Derived.Test.YtegaamebcoockaaDisk
import Derived.Test.YtegaamebcoockaaOrdZ
set_option linter.unusedVariables false
set_option linter.unusedSimpArgs false
set_option maxRecDepth 1000000
namespace Go.Proofs.Ytegaamebcoockaa
open Go.RowKit

theorem way15 (S : Nat → Prop) : OrdR.Way (Only S) := ⟨fun w => Only.refl S w, fun _ _ _ h k => h.trans k⟩

instance gw15 (S : Nat → Prop) (w : World) : Nonempty (OrdR.GW (Only S) w) := ⟨⟨w, Only.refl S w⟩⟩

theorem apart15 {w : World} {g h : Nat} {v v' u : Value} (ha : ∀ q, DskQ g v q → ¬ DskQ h u q) (hp : Plc w v v') (hu : ∀ q, DskQ h u q → q < w.heap.size) : ∀ q, DskQ g v' q → ¬ DskQ h u q := fun q hq hn => by
  rcases hq with hq | hq
  · exact ha q (.inl hq) hn
  · rcases hp q hq with h1 | h1
    · exact ha q (.inr h1) hn
    · have := hu q hn; omega
theorem cat15 (a b : List UInt8) : (⟨a.toArray⟩ ++ ⟨b.toArray⟩ : ByteArray) = ⟨(a ++ b).toArray⟩ := by
  apply ByteArray.ext
  simp
/-- What came in ahead of w, where blocks from w on alone turn. -/
theorem Rd.stay15w {w wk w' : World} {v : Value} {l : List UInt8} {S : Nat → Prop} (_ : Rd wk v l) (h : ∀ wz, Below w.heap.size w wz → Rd wz v l) (hb : Below w.heap.size w wk) (hO : Only S wk w') (hS : ∀ q, S q → w.heap.size ≤ q) : Rd w' v l :=
  h w' (hb.trans (hO.toBelow hS hb.size))

/-- What the document's disk is behind a store. -/
theorem mdk_put {w w3 w4 : World} {N g n n' : Nat} {s r s' r' : List UInt8} {Q : Nat → Prop} {sv rv : Value} (h : Mdk w N g s r n Q) (hQ : ∀ j, Q j → j < w.heap.size) (h3 : Only (fun j => w.heap.size ≤ j) w w3) (h4 : Only (fun j => j = g) w3 w4)
    (hb : w4.heap[g]? = some (.cells #[sv, rv, .int .i64 (n' : Int)] 30 (0, 0))) (hs : OffB w4 sv s' (fun q => q = g ∨ Q q)) (hr : OffB w4 rv r' (fun q => q = g ∨ Q q)) (hl : s'.length + r'.length ≤ 100000000) (hn : n' ≤ 1000000) :
    Mdk w4 N g s' r' n' Q ∧ Only (fun j => j = g) w w4 := by
  refine ⟨⟨h.from_, h.away, hl, hn, sv, rv, hb, hs, hr⟩, ⟨h4.os.trans h3.os, h4.tape.trans h3.tape, h4.output.trans h3.output, Nat.le_trans h3.size h4.size, fun j h1 h2 => (h4.block j (Nat.lt_of_lt_of_le h1 h3.size) h2).trans (h3.block j h1 (by omega))⟩⟩

set_option maxHeartbeats 4000000 in
theorem ref_Sync15 (N g : Nat) (s r : List UInt8) (n : Nat) (Q : Nat → Prop) (w : World) (h : Mdk w N g s r n Q) (hQ : ∀ j, Q j → j < w.heap.size) :
    Calls Try.prog 12 #[.pointer (some ⟨g, 0, none⟩)] w fun e w' => e = .returned (.tuple #[]) ∧ Mdk w' N g (s ++ r) [] n Q ∧ Only (fun j => j = g) w w' := by
  have HM := Lib.hid h
  obtain ⟨sv, rv, hb, hs, hr⟩ := h.box
  obtain ⟨sa, sc, rfl, _⟩ := hs.1.shape
  obtain ⟨ra, rc, rfl, _⟩ := hr.1.shape
  have hX1 : Only (fun j => w.heap.size ≤ j) w (w.drew.alloc (.cells #[] 5)) := (Only.refl _ _).drew.alloc _
  have hgl := h.lt
  have RS := Lib.hid (fun wz (hz : Only (fun j => w.heap.size ≤ j) w wz) => (hs.keep (w' := wz) fun j h1 _ => hz.block j h1 (by omega)).1)
  have RR := Lib.hid (fun wz (hz : Only (fun j => w.heap.size ≤ j) w wz) => (hr.keep (w' := wz) fun j h1 _ => hz.block j h1 (by omega)).1)
  have BX := Lib.hid (fun wz (hz : Only (fun j => w.heap.size ≤ j) w wz) => (hz.block g hgl (by omega)).trans hb)
  have CB := Lib.hid (fun wz (hz : Only (fun j => w.heap.size ≤ j) w wz) => show wz.cell? ⟨g, 0, none⟩ = some (.slice sa s.length sc) ∧ wz.cell? ⟨g, 1, none⟩ = some (.slice ra r.length rc) ∧ wz.frozen? ⟨g, 0, none⟩ = false ∧ wz.frozen? ⟨g, 1, none⟩ = false from by
    have := BX.out wz hz
    refine ⟨?_, ?_, frozen_of_row _ _ _ _ _ this, frozen_of_row _ _ _ _ _ this⟩ <;> rw [cell_of_row _ _ _ _ _ _ this] <;> rfl)
  have L0 := fun x : OrdR.GW (Only (fun j => w.heap.size ≤ j)) w.drew => (CB.out x.val ((Only.refl _ w).drew.trans x.grew)).1
  have L1 := fun x : OrdR.GW (Only (fun j => w.heap.size ≤ j)) w.drew => (CB.out x.val ((Only.refl _ w).drew.trans x.grew)).2.1
  have E1 := Lib.hid (show Own (w.drew.alloc (.cells #[] 5)) w.heap.size (.slice (some ⟨w.heap.size, 0, none⟩) 0 0) [] from own_empty w.drew w.heap.size (Nat.le_refl _))
  have RS1 := Lib.hid (RS.out _ hX1)
  clear h hb hs hr hgl
  go_enter Try.func12, Try.ntmps12
  go_wp2_with fail
  refine OrdZ.wp_region_ord (R := Only (fun j => w.heap.size ≤ j)) (way15 _) [(0, false), (2, false), (3, false), (4, false), (5, false), (7, false), (8, false), (9, false), (10, false), (1, true), (6, true), (11, true), (12, false), (13, false), (14, true)] 14 20 (by kernel_rfl) (by kernel_rfl) rfl (by kernel_rfl) (by kernel_rfl) (fun _ _ _ d _ h => by cases d <;> exact h) ?_
  refine OrdZ.ord_still (by decide) rfl rfl (by kernel_rfl) (fun K hK => ?_)
  go_big_quiet_op
  refine hK _ ?_; clear hK K
  refine OrdZ.ord_still (by decide) rfl rfl (by kernel_rfl) (fun K hK => ?_)
  go_big_quiet_op
  refine hK _ ?_; clear hK K
  refine OrdZ.ord_still (by decide) rfl rfl (by kernel_rfl) (fun K hK => ?_)
  go_big_quiet_op
  refine hK _ ?_; clear hK K
  refine OrdZ.ord_still (by decide) rfl rfl (by kernel_rfl) (fun K hK => ?_)
  go_big_quiet_op
  refine hK _ ?_; clear hK K
  refine OrdZ.ord_still (by decide) rfl rfl (by kernel_rfl) (fun K hK => ?_)
  go_big_quiet_op
  refine hK _ ?_; clear hK K
  refine OrdZ.ord_still (by decide) rfl rfl (by kernel_rfl) (fun K hK => ?_)
  go_big_quiet_op
  refine hK _ ?_; clear hK K
  refine OrdZ.ord_still (by decide) rfl rfl (by kernel_rfl) (fun K hK => ?_)
  go_big_quiet_op
  refine hK _ ?_; clear hK K
  refine OrdZ.ord_still (by decide) rfl rfl (by kernel_rfl) (fun K hK => ?_)
  go_big_quiet_op
  refine hK _ ?_; clear hK K
  refine OrdZ.ord_still (by decide) rfl rfl (by kernel_rfl) (fun K hK => ?_)
  go_big_quiet_op
  refine hK _ ?_; clear hK K
  refine OrdZ.ord_loud rfl (by kernel_rfl) (fun K hK => ?_)
  go_big_op
  refine hK _ _ (Only.later15 ((Below.refl _ _).alloc (Nat.le_refl _) _)) ?_
  clear hK K
  refine OrdZ.ord_loud rfl (by kernel_rfl) (fun K hK => ?_)
  refine opB_append w.heap.size _ [] rfl E1.out _ s rfl RS1.out ?hn1 ?hb1 (fun v2 w2 h1 h2 => hK _ _ h2 ?_)
  case hn1 => have := HM.out.small; simp; omega
  case hb1 => simp
  rw [List.nil_append] at h1
  obtain ⟨a2, n2, rfl, _⟩ := h1.tor.lit
  have HO2 := Lib.hid h1
  have HX2 := Lib.hid (hX1.trans h2)
  simp only [Act.put, List.setIfInBounds_toArray, List.set_cons_zero, List.set_cons_succ]
  clear h1 h2
  clear hK K
  refine OrdZ.ord_loud rfl (by kernel_rfl) (fun K hK => ?_)
  refine opB_append w.heap.size _ s rfl HO2.out _ r rfl (RR.out _ HX2.out) ?hn2 ?hb2 (fun v3 w3 h1 h2 => hK _ _ h2 ?_)
  case hn2 => have := HM.out.small; omega
  case hb2 => exact HX2.out.size
  obtain ⟨a3, n3, rfl, _⟩ := h1.tor.lit
  rw [List.length_append] at h1
  have HO3 := Lib.hid h1
  have HX3 := Lib.hid (HX2.out.trans h2)
  simp only [Act.put, List.setIfInBounds_toArray, List.set_cons_zero, List.set_cons_succ]
  have e0 := (CB.out w3 HX3.out).1
  have e1 := (CB.out w3 HX3.out).2.1
  have f0 := (CB.out w3 HX3.out).2.2.1
  have f1 := (CB.out w3 HX3.out).2.2.2
  clear h1 h2
  clear hK K
  refine OrdZ.ord_still (by decide) rfl rfl (by kernel_rfl) (fun K hK => ?_)
  go_big_quiet_op
  refine hK _ ?_; clear hK K
  refine OrdZ.ord_still (by decide) rfl rfl (by kernel_rfl) (fun K hK => ?_)
  go_big_quiet_op
  refine hK _ ?_; clear hK K
  refine OrdZ.ord_last rfl (by kernel_rfl) (fun K hK => ?_)
  go_big_op
  refine hK _ _ ?_; clear hK K
  go_wp2
  go_end0
  have hO4 : Only (fun j => j = g) w3 ((w3.setCell ⟨g, 0, none⟩ (.slice a3 (s.length + r.length) n3)).setCell ⟨g, 1, none⟩ (.slice none 0 0)) := ((Only.refl (fun j => j = g) _).setCell (p := ⟨g, 0, none⟩) rfl _).setCell (p := ⟨g, 1, none⟩) rfl _
  have hgl := HM.out.lt
  refine ⟨rfl, mdk_put HM.out hQ HX3.out hO4 (block_setCell (block_setCell (BX.out w3 HX3.out) _) _) ?_ (OffB.nil _ _) (by rw [List.length_append]; have := HM.out.small; simp; omega) HM.out.few⟩
  refine (HO3.out.off (by rw [List.length_append]; have := HM.out.small; omega) fun j h1 h2 => ?_).only hO4 fun j h => .inl h
  rcases h2 with h2 | h2
  · omega
  · have := hQ j h2; omega

set_option maxHeartbeats 4000000 in
theorem ref_Bytes15 (N g : Nat) (s r : List UInt8) (n : Nat) (Q : Nat → Prop) (w : World) (h : Mdk w N g s r n Q) :
    Calls Try.prog 17 #[.pointer (some ⟨g, 0, none⟩)] w (RetB w (s ++ r)) := by
  have HM := Lib.hid h
  obtain ⟨sv, rv, hb, hs, hr⟩ := h.box
  obtain ⟨sa, sc, rfl, _⟩ := hs.1.shape
  obtain ⟨ra, rc, rfl, _⟩ := hr.1.shape
  have hX1 : Only (fun j => w.heap.size ≤ j) w (w.drew.alloc (.cells #[] 5)) := (Only.refl _ _).drew.alloc _
  have hgl := h.lt
  have RS := Lib.hid (fun wz (hz : Only (fun j => w.heap.size ≤ j) w wz) => (hs.keep (w' := wz) fun j h1 _ => hz.block j h1 (by omega)).1)
  have RR := Lib.hid (fun wz (hz : Only (fun j => w.heap.size ≤ j) w wz) => (hr.keep (w' := wz) fun j h1 _ => hz.block j h1 (by omega)).1)
  have BX := Lib.hid (fun wz (hz : Only (fun j => w.heap.size ≤ j) w wz) => (hz.block g hgl (by omega)).trans hb)
  have CB := Lib.hid (fun wz (hz : Only (fun j => w.heap.size ≤ j) w wz) => show wz.cell? ⟨g, 0, none⟩ = some (.slice sa s.length sc) ∧ wz.cell? ⟨g, 1, none⟩ = some (.slice ra r.length rc) from by
    have := BX.out wz hz
    refine ⟨?_, ?_⟩ <;> rw [cell_of_row _ _ _ _ _ _ this] <;> rfl)
  have L0 := fun x : OrdR.GW (Only (fun j => w.heap.size ≤ j)) w.drew => (CB.out x.val ((Only.refl _ w).drew.trans x.grew)).1
  have L1 := fun x : OrdR.GW (Only (fun j => w.heap.size ≤ j)) w.drew => (CB.out x.val ((Only.refl _ w).drew.trans x.grew)).2
  have E1 := Lib.hid (show Own (w.drew.alloc (.cells #[] 5)) w.heap.size (.slice (some ⟨w.heap.size, 0, none⟩) 0 0) [] from own_empty w.drew w.heap.size (Nat.le_refl _))
  have RS1 := Lib.hid (RS.out _ hX1)
  clear h hb hs hr hgl
  go_enter Try.func17, Try.ntmps17
  go_wp2_with fail
  refine OrdR.wp_region_ord (R := Only (fun j => w.heap.size ≤ j)) (way15 _) [(1, false), (2, false), (3, false), (4, false), (6, false), (7, false), (8, false), (9, false), (0, true), (5, true), (10, true), (11, false)] (by kernel_rfl) rfl (by kernel_rfl) (by kernel_rfl) (fun _ _ _ d _ h => by cases d <;> exact h) ?_
  refine OrdR.ord_still rfl rfl (by kernel_rfl) (fun K hK => ?_)
  go_big_quiet_op
  refine hK _ ?_; clear hK K
  refine OrdR.ord_still rfl rfl (by kernel_rfl) (fun K hK => ?_)
  go_big_quiet_op
  refine hK _ ?_; clear hK K
  refine OrdR.ord_still rfl rfl (by kernel_rfl) (fun K hK => ?_)
  go_big_quiet_op
  refine hK _ ?_; clear hK K
  refine OrdR.ord_still rfl rfl (by kernel_rfl) (fun K hK => ?_)
  go_big_quiet_op
  refine hK _ ?_; clear hK K
  refine OrdR.ord_still rfl rfl (by kernel_rfl) (fun K hK => ?_)
  go_big_quiet_op
  refine hK _ ?_; clear hK K
  refine OrdR.ord_still rfl rfl (by kernel_rfl) (fun K hK => ?_)
  go_big_quiet_op
  refine hK _ ?_; clear hK K
  refine OrdR.ord_still rfl rfl (by kernel_rfl) (fun K hK => ?_)
  go_big_quiet_op
  refine hK _ ?_; clear hK K
  refine OrdR.ord_still rfl rfl (by kernel_rfl) (fun K hK => ?_)
  go_big_quiet_op
  refine hK _ ?_; clear hK K
  refine OrdR.ord_loud rfl (by kernel_rfl) (fun K hK => ?_)
  go_big_op
  refine hK _ _ (Only.later15 ((Below.refl _ _).alloc (Nat.le_refl _) _)) ?_
  clear hK K
  refine OrdR.ord_loud rfl (by kernel_rfl) (fun K hK => ?_)
  refine opB_append w.heap.size _ [] rfl E1.out _ s rfl RS1.out ?hn1 ?hb1 (fun v2 w2 h1 h2 => hK _ _ h2 ?_)
  case hn1 => have := HM.out.small; simp; omega
  case hb1 => simp
  rw [List.nil_append] at h1
  obtain ⟨a2, n2, rfl, _⟩ := h1.tor.lit
  have HO2 := Lib.hid h1
  have HX2 := Lib.hid (hX1.trans h2)
  simp only [Act.put, List.setIfInBounds_toArray, List.set_cons_zero, List.set_cons_succ]
  clear h1 h2
  clear hK K
  refine OrdR.ord_loud rfl (by kernel_rfl) (fun K hK => ?_)
  refine opB_append w.heap.size _ s rfl HO2.out _ r rfl (RR.out _ HX2.out) ?hn2 ?hb2 (fun v3 w3 h1 h2 => hK _ _ h2 ?_)
  case hn2 => have := HM.out.small; omega
  case hb2 => exact HX2.out.size
  obtain ⟨a3, n3, rfl, _⟩ := h1.tor.lit
  rw [List.length_append] at h1 ⊢
  have HO3 := Lib.hid h1
  have HX3 := Lib.hid (HX2.out.trans h2)
  simp only [Act.put, List.setIfInBounds_toArray, List.set_cons_zero, List.set_cons_succ]
  clear h1 h2
  clear hK K
  refine OrdR.ord_still rfl rfl (by kernel_rfl) (fun K hK => ?_)
  go_big_quiet_op
  refine hK _ ?_; clear hK K
  refine OrdR.ord_nil ?_
  go_wp2
  go_ret
  exact ⟨_, rfl, HO3.out, HX3.out.toBelow (fun j h => h) (Nat.le_refl _)⟩

/-- What the document's Crash leaves. -/
def CrM (w : World) (N g : Nat) (s r : List UInt8) (n : Nat) (Q : Nat → Prop) (k : Int) (j : List UInt8) (e : Ending) (w' : World) : Prop :=
  e = .returned (.int .i64 (crE r.length k j.length : Nat)) ∧ Only (fun j => j = g) w w' ∧
    ((crE r.length k j.length ≠ 0 ∧ Mdk w' N g s r n Q) ∨ (crE r.length k j.length = 0 ∧ Mdk w' N g (s ++ (r.take k.toNat ++ j)) [] (n + 1) Q))

set_option maxHeartbeats 4000000 in
theorem ref_Crash15 (N g : Nat) (s r : List UInt8) (n : Nat) (Q : Nat → Prop) (k : Int) (jv : Value) (j : List UInt8) (w : World) (h : Mdk w N g s r n Q) (hQ : ∀ j, Q j → j < w.heap.size) (hj : Rd w jv j) (hk : -9223372036854775808 ≤ k ∧ k ≤ 9223372036854775807) (hn : n < 1000000) :
    Calls Try.prog 15 #[.pointer (some ⟨g, 0, none⟩), .int .i64 k, jv] w (CrM w N g s r n Q k j) := by
  have HM := Lib.hid h
  have HJ := Lib.hid hj
  have hsm := h.small
  have hjsm := hj.small
  obtain ⟨aj, cj, rfl, _⟩ := hj.shape
  have hjl := hj.len
  obtain ⟨sv, rv, hb, hs, hr⟩ := h.box
  have c0 : w.cell? ⟨g, 0, none⟩ = some sv := by rw [cell_of_row _ _ _ _ _ _ hb]; rfl
  have c1 : w.cell? ⟨g, 1, none⟩ = some rv := by rw [cell_of_row _ _ _ _ _ _ hb]; rfl
  have f1 : w.frozen? ⟨g, 1, none⟩ = false := frozen_of_row _ _ _ _ _ hb
  obtain ⟨sa, sc, rfl, _⟩ := hs.1.shape
  have hrl := hr.1.len
  have HB := Lib.hid hb
  have HS := Lib.hid hs
  have HR := Lib.hid hr
  by_cases h1 : k < 0 ∨ ((r.length : Nat) : Int) < k
  · have hE : crE r.length k j.length = 3 := if_pos h1
    have FIN := Lib.hid (show CrM w N g s r n Q k j (.returned (.int .i64 3)) w from ⟨by rw [hE]; rfl, Only.refl _ _, .inl ⟨by rw [hE]; decide, h⟩⟩)
    obtain ⟨ra, rc, rfl, _⟩ := hr.1.shape
    clear h hj hb hs hr c0 f1 hE
    go_enter Try.func15, Try.ntmps15
    by_cases hk0 : k < 0
    · have d0 : decide (k < 0) = true := decide_eq_true hk0
      go_wp2
      go_ret
      exact FIN.out
    · have hk1 : (r.length : Int) < k := by omega
      have d0 : decide (k < 0) = false := decide_eq_false hk0
      go_wp2
      go_ret
      exact FIN.out
  · obtain ⟨kk, rfl⟩ : ∃ kk : Nat, k = (kk : Int) := ⟨k.toNat, by omega⟩
    have hkk : kk ≤ r.length := by omega
    by_cases h2 : ((r.length : Nat) : Int) < (kk : Int) + (j.length : Int)
    · have hE : crE r.length (kk : Int) j.length = 7 := by unfold crE; rw [if_neg h1, if_pos h2]
      have FIN := Lib.hid (show CrM w N g s r n Q kk j (.returned (.int .i64 7)) w from ⟨by rw [hE]; rfl, Only.refl _ _, .inl ⟨by rw [hE]; decide, h⟩⟩)
      obtain ⟨ra, rc, rfl, _⟩ := hr.1.shape
      clear h hj hb hs hr c0 f1 hE h1
      go_enter Try.func15, Try.ntmps15
      go_wp2
      go_ret
      exact FIN.out
    · have hE : crE r.length (kk : Int) j.length = 0 := by unfold crE; rw [if_neg h1, if_neg h2]
      obtain ⟨pv, hup, hpd⟩ := hr.1.upto kk hkk
      have hpr := hpd w hr.1
      obtain ⟨ra, rc, rfl, _⟩ := hr.1.shape
      obtain ⟨pa, pc, hpv, _⟩ := hpr.shape
      subst hpv
      have hpl : (r.take kk).length = kk := by rw [List.length_take]; omega
      obtain ⟨tk, htk⟩ : ∃ tk, tk = r.take kk := ⟨_, rfl⟩
      rw [← htk] at hpl hpr hup
      have HE := Lib.hid hE
      have HTK := Lib.hid htk
      have HB0 := Lib.hid (show Below w.heap.size w (w.alloc (.cells #[] 5)) from (Below.refl w.heap.size w).alloc (Nat.le_refl _) _)
      have HO0 := Lib.hid (own_empty w w.heap.size (Nat.le_refl _))
      have HP := Lib.hid (hpr.later HB0.out (Nat.le_refl _))
      have hgl := h.lt
      have c1a : ∀ o, (w.alloc o).cell? ⟨g, 1, none⟩ = some (.slice ra r.length rc) := fun o => (((Below.refl w.heap.size w).alloc (Nat.le_refl _) o).cell (p := ⟨g, 1, none⟩) hgl).trans c1
      have hkf : (j.length : Int) ≤ (r.length : Int) - (kk : Int) := by omega
      have HPL := Lib.hid hpl
      clear h hj hb hs hr c0 hE h1 h2 hpd hpr htk hpl
      go_enter Try.func15, Try.ntmps15
      go_wp2_with (with_reducible refine wpl_append w.heap.size _ [] ?hs HO0.out _ tk ?hx HP.out ?hn ?hbase w.heap.size w HB0.out (Nat.le_refl _) ?_)
      case hs => rfl
      case hx => rfl
      case hn => have := HPL.out; simp; omega
      case hbase => simp
      intro v2 w2 ho2 hb2 _
      rw [List.nil_append] at ho2
      obtain ⟨a2, n2, rfl, _⟩ := ho2.tor.lit
      have HO2 := Lib.hid ho2
      have HB2 := Lib.hid hb2
      have HJ2 := Lib.hid (HJ.out.later hb2 (Nat.le_refl _))
      clear ho2 hb2
      go_wp2_with (with_reducible refine wpl_append w.heap.size _ tk ?hs2 HO2.out _ j ?hx2 HJ2.out ?hn2 ?hbase2 w.heap.size w HB2.out (Nat.le_refl _) ?_)
      case hs2 => rfl
      case hx2 => rfl
      case hn2 => have := HPL.out; omega
      case hbase2 => exact HB2.out.size
      intro v3 w3 ho3 hb3 _
      obtain ⟨a3, n3, rfl, _⟩ := ho3.tor.lit
      rw [List.length_append] at ho3
      have HO3 := Lib.hid ho3
      have HB3 := Lib.hid hb3
      have hbox := (hb3.block g hgl).trans HB.out
      have d1 : w3.cell? ⟨g, 1, none⟩ = some (.slice ra r.length rc) := by rw [cell_of_row _ _ _ _ _ _ hbox]; rfl
      have g1 : w3.frozen? ⟨g, 1, none⟩ = false := frozen_of_row _ _ _ _ _ hbox
      have hsmj : s.length + (tk ++ j).length ≤ 100000000 := by rw [List.length_append]; have := HPL.out; omega
      have hO4 : Only (fun j => j = g) w3 (w3.setCell ⟨g, 1, none⟩ (.slice a3 (tk.length + j.length) n3)) := (Only.refl (fun j => j = g) _).setCell (p := ⟨g, 1, none⟩) rfl _
      have hM4 := mdk_put HM.out hQ (Only.later15 hb3) hO4 (block_setCell hbox _) ((HS.out.later hb3).only hO4 fun j h => .inl h) ((ho3.off (by rw [List.length_append] at hsmj ⊢; omega) fun j h1 h2 => by
        rcases h2 with h2 | h2
        · omega
        · have := hQ j h2; omega).only hO4 fun j h => .inl h) hsmj HM.out.few
      have SY := Lib.hid (ref_Sync15 N g s (tk ++ j) n Q _ hM4.1 (fun j hj => by have h1 := hQ j hj; have h2 := hM4.2.size; omega))
      have HM4 := Lib.hid hM4
      clear ho3 hb3 hbox hO4 hM4 hsmj c1 c1a hrl hjl f1 hup HO2 HB2 HJ2 HP HB0 HO0
      go_wp2_with fail
      refine SY.out.mono ?_
      rintro e w5 ⟨rfl, hm, ho5⟩
      obtain ⟨sv5, rv5, hb5, hs5, hr5⟩ := hm.box
      have e2 : w5.cell? ⟨g, 2, none⟩ = some (.int .i64 (n : Int)) := by rw [cell_of_row _ _ _ _ _ _ hb5]; rfl
      have g2 : w5.frozen? ⟨g, 2, none⟩ = false := frozen_of_row _ _ _ _ _ hb5
      have HB5 := Lib.hid hb5
      have HM5 := Lib.hid hm
      have HO5 := Lib.hid ho5
      have HS5 := Lib.hid hs5
      have HR5 := Lib.hid hr5
      clear hm ho5 hb5 hs5 hr5 SY d1 g1
      go_wp2
      go_ret
      have hO6 : Only (fun j => j = g) w5 (w5.setCell ⟨g, 2, none⟩ (.int .i64 ((n : Int) + 1))) := (Only.refl (fun j => j = g) _).setCell (p := ⟨g, 2, none⟩) rfl _
      rw [CrM, HE.out, Int.toNat_natCast, ← HTK.out]
      exact ⟨rfl, (HM4.out.2.trans HO5.out).trans hO6, .inr ⟨rfl, HM5.out.from_, HM5.out.away, HM5.out.small, hn, sv5, rv5, block_setCell HB5.out _, HS5.out.only hO6 fun j h => .inl h, HR5.out.only hO6 fun j h => .inl h⟩⟩

end Go.Proofs.Ytegaamebcoockaa
