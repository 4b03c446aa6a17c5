/-
  WireOne: what is got of any bytes is put as those. For every input.
-/
import Derived.Test.YtbnonbpdihglaaaAlive
import Derived.Test.YtbnonbpdihglaaaLater
set_option linter.unusedVariables false
set_option linter.unusedSimpArgs false
namespace Go.Proofs.Ytbnonbpdihglaaa
open Go.RowKit

/-- A number's bytes are the only ones that are read as it. -/
theorem encU_val (n : Nat) : ∀ (l : List UInt8), n < l.length → (∀ j, j < n → 128 ≤ at8 l j) → at8 l n < 128 → (0 < n → at8 l n ≠ 0) → encU (valU (l.take (n + 1))) = l.take (n + 1) := by
  induction n with
  | zero =>
    intro l hl _ h1 _
    cases l with
    | nil => simp at hl
    | cons b l =>
      simp [at8] at h1
      simp only [List.take_succ_cons, List.take_zero, valU_cons, valU_nil]
      rw [encU_lt (by omega)]
      congr 1
      apply UInt8.toNat_inj.1
      rw [UInt8.toNat_ofNat']; omega
  | succ n ih =>
    intro l hl h0 h1 h2
    cases l with
    | nil => simp at hl
    | cons b l =>
      have hb := h0 0 (by omega)
      simp [at8] at hb
      have e : ∀ j, at8 (b :: l) (j + 1) = at8 l j := fun j => by simp [at8]
      have ih' := ih l (by simpa using hl) (fun j hj => by have := h0 (j + 1) (by omega); rwa [e] at this) (by rw [e] at h1; exact h1) (fun hn => by have := h2 (by omega); rwa [e] at this)
      rw [List.take_succ_cons, valU_cons]
      have hpos : 0 < valU (l.take (n + 1)) := by
        apply Nat.pos_of_ne_zero
        intro h
        rw [h, encU_lt (by decide)] at ih'
        have hlen : (l.take (n + 1)).length = 1 := by rw [← ih']; rfl
        simp at hlen
        have hn0 : n = 0 := by simp at hl; omega
        subst hn0
        cases l with
        | nil => simp at hl
        | cons c l =>
          simp at ih'
          have := h2 (by omega)
          rw [e] at this
          apply this
          simp [at8, ← ih']
      rw [encU_ge (by omega)]
      have d1 : (b.toNat % 128 + 128 * valU (l.take (n + 1))) / 128 = valU (l.take (n + 1)) := by omega
      have d2 : 128 + (b.toNat % 128 + 128 * valU (l.take (n + 1))) % 128 = b.toNat := by
        have := b.toNat_lt
        omega
      rw [d1, d2, ih']
      simp

/-- What is got is put as the bytes that it had. -/
theorem getU_enc {l : List UInt8} {x n : Nat} (h : getU l = (x, n, 0)) : encU x = l.take n := by
  have hle := leadU_le 10 l
  have hge := fun i hi => leadU_ge (k := 10) (l := l) i hi
  unfold getU at h
  simp only at h
  by_cases h1 : leadU 10 l = 10
  · simp [h1] at h
  · by_cases h2 : leadU 10 l = l.length
    · simp only [if_neg h1, if_pos h2] at h; simp at h
    · by_cases h3 : 2 ^ 64 ≤ valU (l.take (leadU 10 l + 1))
      · simp only [if_neg h1, if_neg h2, if_pos h3] at h; simp at h
      · by_cases h4 : 0 < leadU 10 l ∧ at8 l (leadU 10 l) = 0
        · simp only [if_neg h1, if_neg h2, if_neg h3, if_pos h4] at h; simp at h
        · simp only [if_neg h1, if_neg h2, if_neg h3, if_neg h4, Prod.mk.injEq, and_true] at h
          obtain ⟨rfl, rfl⟩ := h
          exact encU_val (leadU 10 l) l (by omega) hge (leadU_next (by omega) (by omega)) (fun hp hz => h4 ⟨hp, hz⟩)

theorem getB_enc {l c : List UInt8} {most : Int} {n : Nat} (h : getB l most = (c, n, 0)) : encB c = l.take n ∧ 1 ≤ n ∧ n ≤ l.length ∧ c.length ≤ l.length := by
  unfold getB at h
  split at h
  · rename_i he; simp at h; exact absurd h.2.2 he
  · rename_i he
    have he' : (getU l).2.2 = 0 := by omega
    obtain ⟨g1, g2, g3, g4⟩ := getU_good l he'
    split at h
    · simp at h
    · split at h
      · simp at h
      · simp only [Prod.mk.injEq, and_true] at h
        obtain ⟨rfl, rfl⟩ := h
        have hu := getU_enc (l := l) (x := (getU l).1) (n := (getU l).2.1) (by rw [← he'])
        have hlen : ((l.drop (getU l).2.1).take (getU l).1).length = (getU l).1 := by simp; omega
        refine ⟨?_, by omega, by omega, by simp; omega⟩
        unfold encB
        rw [hlen, hu, List.take_add]

set_option maxHeartbeats 8000000 in
set_option maxRecDepth 20000 in
theorem wireOne_walk (v : Value) (l : List UInt8) (w : World) (h : Rd w v l) :
    Calls Try.prog 6 #[v] w fun e w' => e = .returned (.bool true) ∧ Below w.heap.size w w' := by
  have hlen := h.len
  have hsm := h.small
  by_cases hbig : 2000 < l.length
  · go_enter Try.func6, Try.ntmps6
    go_wp2_with fail
    refine (law01_alive w).mono ?_
    rintro e w1 ⟨rfl, hb⟩
    go_wp2_with fail
    go_ret
    exact ⟨rfl, hb⟩
  · have hz := getU_err l
    have hg := getU_good l
    have hcd := getU_codes l
    rcases hr : getU l with ⟨x, n, er⟩
    rw [hr] at hz hg hcd
    dsimp only at hz hg hcd
    have HR := Lib.hid hr
    clear hr
    have hgb := fun (he : (getB l l.length).2.2 = 0) => getB_enc (l := l) (most := l.length) (c := (getB l l.length).1) (n := (getB l l.length).2.1) (by rw [← he])
    rcases hr : getB l l.length with ⟨c, k, ec⟩
    rw [hr] at hgb
    dsimp only at hgb
    have HB := Lib.hid hr
    clear hr
    by_cases he : er = 0
    · clear hz
      subst he
      obtain ⟨hx, hn1', hn2', hn3'⟩ := hg rfl
      have hn1 : (1 : Int) ≤ n := by omega
      have hn2 : (n : Int) ≤ l.length := by omega
      have hn3 : (n : Int) ≤ 10 := by omega
      have hf1 : decide ((n : Int) < 1) = false := decide_eq_false (by omega)
      have hf2 : decide (l.length < n) = false := decide_eq_false (by omega)
      have hf3 : decide ((10 : Int) < n) = false := decide_eq_false (by omega)
      have hle := encU_le x hx
      obtain ⟨v', hsl, hrd⟩ := h.upto n hn2'
      have hR := h.drew
      have hs0 := (hrd _ hR).str_later
      rw [← getU_enc HR.out] at hs0
      have hbel : Below w.heap.size w w.drew := (Below.refl _ _).drew
      go_enter Try.func6, Try.ntmps6
      go_wp2_with (go_at_call 21; refine (wire_GetUint v l _ h).mono ?_; rintro e w' ⟨rfl, rfl⟩; rw [HR.out]; dsimp only)
      refine Ord.wp_region_ord [(0, false), (1, false), (2, false), (3, false), (4, false), (5, false), (6, false), (7, false), (8, false), (9, false), (10, false), (11, false), (12, false), (13, false), (14, false), (15, false), (16, false), (19, false), (20, false), (21, false), (22, false), (17, true), (18, false), (23, false), (24, false), (25, false)] (by kernel_rfl) rfl (by kernel_rfl) (by kernel_rfl) (fun _ _ _ d _ h => by cases d <;> exact h) ?_
      refine Ord.ord_still rfl rfl (by kernel_rfl) (fun K hK => ?_)
      go_big_quiet_op
      refine hK _ ?_; clear hK K
      refine Ord.ord_still rfl rfl (by kernel_rfl) (fun K hK => ?_)
      go_big_quiet_op
      refine hK _ ?_; clear hK K
      refine Ord.ord_still rfl rfl (by kernel_rfl) (fun K hK => ?_)
      go_big_quiet_op
      refine hK _ ?_; clear hK K
      refine Ord.ord_still rfl rfl (by kernel_rfl) (fun K hK => ?_)
      go_big_quiet_op
      refine hK _ ?_; clear hK K
      refine Ord.ord_still rfl rfl (by kernel_rfl) (fun K hK => ?_)
      go_big_quiet_op
      refine hK _ ?_; clear hK K
      refine Ord.ord_still rfl rfl (by kernel_rfl) (fun K hK => ?_)
      go_big_quiet_op
      refine hK _ ?_; clear hK K
      refine Ord.ord_still rfl rfl (by kernel_rfl) (fun K hK => ?_)
      go_big_quiet_op
      refine hK _ ?_; clear hK K
      refine Ord.ord_still rfl rfl (by kernel_rfl) (fun K hK => ?_)
      go_big_quiet_op
      refine hK _ ?_; clear hK K
      refine Ord.ord_still rfl rfl (by kernel_rfl) (fun K hK => ?_)
      go_big_quiet_op
      refine hK _ ?_; clear hK K
      refine Ord.ord_still rfl rfl (by kernel_rfl) (fun K hK => ?_)
      go_big_quiet_op
      refine hK _ ?_; clear hK K
      refine Ord.ord_still rfl rfl (by kernel_rfl) (fun K hK => ?_)
      go_big_quiet_op
      refine hK _ ?_; clear hK K
      refine Ord.ord_still rfl rfl (by kernel_rfl) (fun K hK => ?_)
      go_big_quiet_op
      refine hK _ ?_; clear hK K
      refine Ord.ord_still rfl rfl (by kernel_rfl) (fun K hK => ?_)
      go_big_quiet_op
      refine hK _ ?_; clear hK K
      refine Ord.ord_still rfl rfl (by kernel_rfl) (fun K hK => ?_)
      go_big_quiet_op
      refine hK _ ?_; clear hK K
      refine Ord.ord_still rfl rfl (by kernel_rfl) (fun K hK => ?_)
      go_big_quiet_op
      refine hK _ ?_; clear hK K
      refine Ord.ord_still rfl rfl (by kernel_rfl) (fun K hK => ?_)
      go_big_quiet_op
      refine hK _ ?_; clear hK K
      refine Ord.ord_still rfl rfl (by kernel_rfl) (fun K hK => ?_)
      go_big_quiet_op
      refine hK _ ?_; clear hK K
      refine Ord.ord_still rfl rfl (by kernel_rfl) (fun K hK => ?_)
      go_big_quiet_op
      refine hK _ ?_; clear hK K
      refine Ord.ord_still rfl rfl (by kernel_rfl) (fun K hK => ?_)
      go_big_quiet_op
      refine hK _ ?_; clear hK K
      refine Ord.ord_still rfl rfl (by kernel_rfl) (fun K hK => ?_)
      go_big_quiet_op
      refine hK _ ?_; clear hK K
      refine Ord.ord_still rfl rfl (by kernel_rfl) (fun K hK => ?_)
      go_big_quiet_op
      refine hK _ ?_; clear hK K
      refine Ord.ord_loud rfl (by kernel_rfl) (fun K hK => ?_)
      go_big_op
      refine (wire_Uint x (by omega) (by omega) _).mono ?_
      rintro e w1 ⟨v1, rfl, ho1, hb1⟩
      rw [Int.toNat_natCast] at ho1
      have hs1 := str_later ho1 (by omega)
      replace hR := hR.later hb1 (Nat.le_refl _)
      replace hbel := hbel.trans (hb1.mono hbel.size)
      clear ho1
      refine hK _ _ hb1 ?_
      clear hb1
      clear hK K
      refine Ord.ord_still rfl rfl (by kernel_rfl) (fun K hK => ?_)
      go_big_quiet_op
      refine hK _ ?_; clear hK K
      refine Ord.ord_still rfl rfl (by kernel_rfl) (fun K hK => ?_)
      go_big_quiet_op
      refine hK _ ?_; clear hK K
      refine Ord.ord_still rfl rfl (by kernel_rfl) (fun K hK => ?_)
      go_big_quiet_op
      refine hK _ ?_; clear hK K
      refine Ord.ord_still rfl rfl (by kernel_rfl) (fun K hK => ?_)
      go_big_quiet_op
      refine hK _ ?_; clear hK K
      refine Ord.ord_nil ?_
      go_wp2_with fail
      refine (wire_GetBytes v l l.length (by omega) (by omega) _ hR).mono ?_
      rintro e w3 ⟨v3, rfl, ho3, hb3⟩
      rw [HB.out] at ho3 ⊢; dsimp only at ho3 ⊢
      replace hR := hR.later hb3 (Nat.le_refl _)
      replace hbel := hbel.trans (hb3.mono hbel.size)
      by_cases hec : ec = 0
      · subst hec
        go_wp2_with fail
        obtain ⟨b1, b2, b3, b4⟩ := hgb (by trivial)
        have hn1 : (1 : Int) ≤ k := by omega
        have hn2 : (k : Int) ≤ l.length := by omega
        have hg1 : decide ((k : Int) < 1) = false := decide_eq_false (by omega)
        have hg2 : decide (l.length < k) = false := decide_eq_false (by omega)
        have hc := ho3.rd (by omega)
        have heb : (encB c).length ≤ 140737488351232 := by rw [b1]; simp; omega
        obtain ⟨v', hsl, hrd⟩ := h.upto k b3
        replace hc := hc.drew
        replace hR := hR.drew
        replace hbel := hbel.drew
        have hs5 := (hrd _ hR).str_later
        rw [← b1] at hs5
        refine Ord.wp_region_ord [(0, false), (1, false), (2, false), (3, false), (4, false), (5, false), (6, false), (7, false), (8, false), (9, false), (10, false), (11, false), (12, false), (15, false), (16, false), (17, false), (18, false), (13, true), (14, false), (19, false), (20, false), (21, false)] (by kernel_rfl) rfl (by kernel_rfl) (by kernel_rfl) (fun _ _ _ d _ h => by cases d <;> exact h) ?_
        refine Ord.ord_still rfl rfl (by kernel_rfl) (fun K hK => ?_)
        go_big_quiet_op
        refine hK _ ?_; clear hK K
        refine Ord.ord_still rfl rfl (by kernel_rfl) (fun K hK => ?_)
        go_big_quiet_op
        refine hK _ ?_; clear hK K
        refine Ord.ord_still rfl rfl (by kernel_rfl) (fun K hK => ?_)
        go_big_quiet_op
        refine hK _ ?_; clear hK K
        refine Ord.ord_still rfl rfl (by kernel_rfl) (fun K hK => ?_)
        go_big_quiet_op
        refine hK _ ?_; clear hK K
        refine Ord.ord_still rfl rfl (by kernel_rfl) (fun K hK => ?_)
        go_big_quiet_op
        refine hK _ ?_; clear hK K
        refine Ord.ord_still rfl rfl (by kernel_rfl) (fun K hK => ?_)
        go_big_quiet_op
        refine hK _ ?_; clear hK K
        refine Ord.ord_still rfl rfl (by kernel_rfl) (fun K hK => ?_)
        go_big_quiet_op
        refine hK _ ?_; clear hK K
        refine Ord.ord_still rfl rfl (by kernel_rfl) (fun K hK => ?_)
        go_big_quiet_op
        refine hK _ ?_; clear hK K
        refine Ord.ord_still rfl rfl (by kernel_rfl) (fun K hK => ?_)
        go_big_quiet_op
        refine hK _ ?_; clear hK K
        refine Ord.ord_still rfl rfl (by kernel_rfl) (fun K hK => ?_)
        go_big_quiet_op
        refine hK _ ?_; clear hK K
        refine Ord.ord_still rfl rfl (by kernel_rfl) (fun K hK => ?_)
        go_big_quiet_op
        refine hK _ ?_; clear hK K
        refine Ord.ord_still rfl rfl (by kernel_rfl) (fun K hK => ?_)
        go_big_quiet_op
        refine hK _ ?_; clear hK K
        refine Ord.ord_still rfl rfl (by kernel_rfl) (fun K hK => ?_)
        go_big_quiet_op
        refine hK _ ?_; clear hK K
        refine Ord.ord_still rfl rfl (by kernel_rfl) (fun K hK => ?_)
        go_big_quiet_op
        refine hK _ ?_; clear hK K
        refine Ord.ord_still rfl rfl (by kernel_rfl) (fun K hK => ?_)
        go_big_quiet_op
        refine hK _ ?_; clear hK K
        refine Ord.ord_still rfl rfl (by kernel_rfl) (fun K hK => ?_)
        go_big_quiet_op
        refine hK _ ?_; clear hK K
        refine Ord.ord_still rfl rfl (by kernel_rfl) (fun K hK => ?_)
        go_big_quiet_op
        refine hK _ ?_; clear hK K
        refine Ord.ord_loud rfl (by kernel_rfl) (fun K hK => ?_)
        go_big_op
        refine (wire_Bytes _ _ _ hc).mono ?_
        rintro e w4 ⟨v4, rfl, ho4, hb4⟩
        have hs4 := str_later ho4 (by omega)
        replace hbel := hbel.trans (hb4.mono hbel.size)
        clear ho4
        refine hK _ _ hb4 ?_
        clear hb4
        clear hK K
        refine Ord.ord_still rfl rfl (by kernel_rfl) (fun K hK => ?_)
        go_big_quiet_op
        refine hK _ ?_; clear hK K
        refine Ord.ord_still rfl rfl (by kernel_rfl) (fun K hK => ?_)
        go_big_quiet_op
        refine hK _ ?_; clear hK K
        refine Ord.ord_still rfl rfl (by kernel_rfl) (fun K hK => ?_)
        go_big_quiet_op
        refine hK _ ?_; clear hK K
        refine Ord.ord_still rfl rfl (by kernel_rfl) (fun K hK => ?_)
        go_big_quiet_op
        refine hK _ ?_; clear hK K
        refine Ord.ord_nil ?_
        go_wp2_with fail
        refine (law01_alive _).mono ?_
        rintro e w9 ⟨rfl, hb9⟩
        have hfin := hbel.trans (hb9.mono hbel.size)
        go_wp2_with fail
        go_ret
        exact ⟨rfl, hfin⟩
      · have hne2 : ((ec : Int) == 0) = false := by simp; omega
        go_wp2_with fail
        have hne2 : ((ec : Int) == 0) = false := by simp; omega
        replace hbel := hbel.drew
        refine Ord.wp_region_ord [(0, false), (1, false), (2, false), (3, false), (4, false), (5, false), (6, false), (7, false), (8, false), (9, false), (10, false), (11, false), (12, false), (15, false), (16, false), (17, false), (18, false), (13, true), (14, false), (19, false), (20, false), (21, false)] (by kernel_rfl) rfl (by kernel_rfl) (by kernel_rfl) (fun _ _ _ d _ h => by cases d <;> exact h) ?_
        refine Ord.ord_still rfl rfl (by kernel_rfl) (fun K hK => ?_)
        go_big_quiet_op
        refine hK _ ?_; clear hK K
        refine Ord.ord_still rfl rfl (by kernel_rfl) (fun K hK => ?_)
        go_big_quiet_op
        refine hK _ ?_; clear hK K
        refine Ord.ord_still rfl rfl (by kernel_rfl) (fun K hK => ?_)
        go_big_quiet_op
        refine hK _ ?_; clear hK K
        refine Ord.ord_skip rfl (by kernel_rfl) (fun K hK => ?_)
        go_big_quiet_op
        refine hK _ ?_; clear hK K
        refine Ord.ord_skip rfl (by kernel_rfl) (fun K hK => ?_)
        go_big_quiet_op
        refine hK _ ?_; clear hK K
        refine Ord.ord_skip rfl (by kernel_rfl) (fun K hK => ?_)
        go_big_quiet_op
        refine hK _ ?_; clear hK K
        refine Ord.ord_skip rfl (by kernel_rfl) (fun K hK => ?_)
        go_big_quiet_op
        refine hK _ ?_; clear hK K
        refine Ord.ord_skip rfl (by kernel_rfl) (fun K hK => ?_)
        go_big_quiet_op
        refine hK _ ?_; clear hK K
        refine Ord.ord_skip rfl (by kernel_rfl) (fun K hK => ?_)
        go_big_quiet_op
        refine hK _ ?_; clear hK K
        refine Ord.ord_skip rfl (by kernel_rfl) (fun K hK => ?_)
        go_big_quiet_op
        refine hK _ ?_; clear hK K
        refine Ord.ord_skip rfl (by kernel_rfl) (fun K hK => ?_)
        go_big_quiet_op
        refine hK _ ?_; clear hK K
        refine Ord.ord_skip rfl (by kernel_rfl) (fun K hK => ?_)
        go_big_quiet_op
        refine hK _ ?_; clear hK K
        refine Ord.ord_skip rfl (by kernel_rfl) (fun K hK => ?_)
        go_big_quiet_op
        refine hK _ ?_; clear hK K
        refine Ord.ord_skip rfl (by kernel_rfl) (fun K hK => ?_)
        go_big_quiet_op
        refine hK _ ?_; clear hK K
        refine Ord.ord_skip rfl (by kernel_rfl) (fun K hK => ?_)
        go_big_quiet_op
        refine hK _ ?_; clear hK K
        refine Ord.ord_skip rfl (by kernel_rfl) (fun K hK => ?_)
        go_big_quiet_op
        refine hK _ ?_; clear hK K
        refine Ord.ord_skip rfl (by kernel_rfl) (fun K hK => ?_)
        go_big_quiet_op
        refine hK _ ?_; clear hK K
        refine Ord.ord_skip rfl (by kernel_rfl) (fun K hK => ?_)
        go_big_quiet_op
        refine hK _ ?_; clear hK K
        refine Ord.ord_skip rfl (by kernel_rfl) (fun K hK => ?_)
        go_big_quiet_op
        refine hK _ ?_; clear hK K
        refine Ord.ord_skip rfl (by kernel_rfl) (fun K hK => ?_)
        go_big_quiet_op
        refine hK _ ?_; clear hK K
        refine Ord.ord_skip rfl (by kernel_rfl) (fun K hK => ?_)
        go_big_quiet_op
        refine hK _ ?_; clear hK K
        refine Ord.ord_still rfl rfl (by kernel_rfl) (fun K hK => ?_)
        go_big_quiet_op
        refine hK _ ?_; clear hK K
        refine Ord.ord_nil ?_
        go_wp2_with fail
        refine (law01_alive _).mono ?_
        rintro e w9 ⟨rfl, hb9⟩
        have hfin := hbel.trans (hb9.mono hbel.size)
        go_wp2_with fail
        go_ret
        exact ⟨rfl, hfin⟩
    · clear hg
      obtain ⟨hx, hn⟩ := hz he
      subst hx hn
      have hne : ((er : Int) == 0) = false := by simp; omega
      have hR := h.drew
      have hbel : Below w.heap.size w w.drew := (Below.refl _ _).drew
      go_enter Try.func6, Try.ntmps6
      go_wp2_with (go_at_call 21; refine (wire_GetUint v l _ h).mono ?_; rintro e w' ⟨rfl, rfl⟩; rw [HR.out]; dsimp only)
      refine Ord.wp_region_ord [(0, false), (1, false), (2, false), (3, false), (4, false), (5, false), (6, false), (7, false), (8, false), (9, false), (10, false), (11, false), (12, false), (13, false), (14, false), (15, false), (16, false), (19, false), (20, false), (21, false), (22, false), (17, true), (18, false), (23, false), (24, false), (25, false)] (by kernel_rfl) rfl (by kernel_rfl) (by kernel_rfl) (fun _ _ _ d _ h => by cases d <;> exact h) ?_
      refine Ord.ord_still rfl rfl (by kernel_rfl) (fun K hK => ?_)
      go_big_quiet_op
      refine hK _ ?_; clear hK K
      refine Ord.ord_still rfl rfl (by kernel_rfl) (fun K hK => ?_)
      go_big_quiet_op
      refine hK _ ?_; clear hK K
      refine Ord.ord_still rfl rfl (by kernel_rfl) (fun K hK => ?_)
      go_big_quiet_op
      refine hK _ ?_; clear hK K
      refine Ord.ord_skip rfl (by kernel_rfl) (fun K hK => ?_)
      go_big_quiet_op
      refine hK _ ?_; clear hK K
      refine Ord.ord_skip rfl (by kernel_rfl) (fun K hK => ?_)
      go_big_quiet_op
      refine hK _ ?_; clear hK K
      refine Ord.ord_skip rfl (by kernel_rfl) (fun K hK => ?_)
      go_big_quiet_op
      refine hK _ ?_; clear hK K
      refine Ord.ord_skip rfl (by kernel_rfl) (fun K hK => ?_)
      go_big_quiet_op
      refine hK _ ?_; clear hK K
      refine Ord.ord_skip rfl (by kernel_rfl) (fun K hK => ?_)
      go_big_quiet_op
      refine hK _ ?_; clear hK K
      refine Ord.ord_skip rfl (by kernel_rfl) (fun K hK => ?_)
      go_big_quiet_op
      refine hK _ ?_; clear hK K
      refine Ord.ord_skip rfl (by kernel_rfl) (fun K hK => ?_)
      go_big_quiet_op
      refine hK _ ?_; clear hK K
      refine Ord.ord_skip rfl (by kernel_rfl) (fun K hK => ?_)
      go_big_quiet_op
      refine hK _ ?_; clear hK K
      refine Ord.ord_skip rfl (by kernel_rfl) (fun K hK => ?_)
      go_big_quiet_op
      refine hK _ ?_; clear hK K
      refine Ord.ord_skip rfl (by kernel_rfl) (fun K hK => ?_)
      go_big_quiet_op
      refine hK _ ?_; clear hK K
      refine Ord.ord_skip rfl (by kernel_rfl) (fun K hK => ?_)
      go_big_quiet_op
      refine hK _ ?_; clear hK K
      refine Ord.ord_skip rfl (by kernel_rfl) (fun K hK => ?_)
      go_big_quiet_op
      refine hK _ ?_; clear hK K
      refine Ord.ord_skip rfl (by kernel_rfl) (fun K hK => ?_)
      go_big_quiet_op
      refine hK _ ?_; clear hK K
      refine Ord.ord_skip rfl (by kernel_rfl) (fun K hK => ?_)
      go_big_quiet_op
      refine hK _ ?_; clear hK K
      refine Ord.ord_skip rfl (by kernel_rfl) (fun K hK => ?_)
      go_big_quiet_op
      refine hK _ ?_; clear hK K
      refine Ord.ord_skip rfl (by kernel_rfl) (fun K hK => ?_)
      go_big_quiet_op
      refine hK _ ?_; clear hK K
      refine Ord.ord_skip rfl (by kernel_rfl) (fun K hK => ?_)
      go_big_quiet_op
      refine hK _ ?_; clear hK K
      refine Ord.ord_skip rfl (by kernel_rfl) (fun K hK => ?_)
      go_big_quiet_op
      refine hK _ ?_; clear hK K
      refine Ord.ord_skip rfl (by kernel_rfl) (fun K hK => ?_)
      go_big_quiet_op
      refine hK _ ?_; clear hK K
      refine Ord.ord_skip rfl (by kernel_rfl) (fun K hK => ?_)
      go_big_quiet_op
      refine hK _ ?_; clear hK K
      refine Ord.ord_skip rfl (by kernel_rfl) (fun K hK => ?_)
      go_big_quiet_op
      refine hK _ ?_; clear hK K
      refine Ord.ord_skip rfl (by kernel_rfl) (fun K hK => ?_)
      go_big_quiet_op
      refine hK _ ?_; clear hK K
      refine Ord.ord_still rfl rfl (by kernel_rfl) (fun K hK => ?_)
      go_big_quiet_op
      refine hK _ ?_; clear hK K
      refine Ord.ord_nil ?_
      go_wp2_with fail
      refine (wire_GetBytes v l l.length (by omega) (by omega) _ hR).mono ?_
      rintro e w3 ⟨v3, rfl, ho3, hb3⟩
      rw [HB.out] at ho3 ⊢; dsimp only at ho3 ⊢
      replace hR := hR.later hb3 (Nat.le_refl _)
      replace hbel := hbel.trans (hb3.mono hbel.size)
      by_cases hec : ec = 0
      · subst hec
        go_wp2_with fail
        obtain ⟨b1, b2, b3, b4⟩ := hgb (by trivial)
        have hn1 : (1 : Int) ≤ k := by omega
        have hn2 : (k : Int) ≤ l.length := by omega
        have hg1 : decide ((k : Int) < 1) = false := decide_eq_false (by omega)
        have hg2 : decide (l.length < k) = false := decide_eq_false (by omega)
        have hc := ho3.rd (by omega)
        have heb : (encB c).length ≤ 140737488351232 := by rw [b1]; simp; omega
        obtain ⟨v', hsl, hrd⟩ := h.upto k b3
        replace hc := hc.drew
        replace hR := hR.drew
        replace hbel := hbel.drew
        have hs5 := (hrd _ hR).str_later
        rw [← b1] at hs5
        refine Ord.wp_region_ord [(0, false), (1, false), (2, false), (3, false), (4, false), (5, false), (6, false), (7, false), (8, false), (9, false), (10, false), (11, false), (12, false), (15, false), (16, false), (17, false), (18, false), (13, true), (14, false), (19, false), (20, false), (21, false)] (by kernel_rfl) rfl (by kernel_rfl) (by kernel_rfl) (fun _ _ _ d _ h => by cases d <;> exact h) ?_
        refine Ord.ord_still rfl rfl (by kernel_rfl) (fun K hK => ?_)
        go_big_quiet_op
        refine hK _ ?_; clear hK K
        refine Ord.ord_still rfl rfl (by kernel_rfl) (fun K hK => ?_)
        go_big_quiet_op
        refine hK _ ?_; clear hK K
        refine Ord.ord_still rfl rfl (by kernel_rfl) (fun K hK => ?_)
        go_big_quiet_op
        refine hK _ ?_; clear hK K
        refine Ord.ord_still rfl rfl (by kernel_rfl) (fun K hK => ?_)
        go_big_quiet_op
        refine hK _ ?_; clear hK K
        refine Ord.ord_still rfl rfl (by kernel_rfl) (fun K hK => ?_)
        go_big_quiet_op
        refine hK _ ?_; clear hK K
        refine Ord.ord_still rfl rfl (by kernel_rfl) (fun K hK => ?_)
        go_big_quiet_op
        refine hK _ ?_; clear hK K
        refine Ord.ord_still rfl rfl (by kernel_rfl) (fun K hK => ?_)
        go_big_quiet_op
        refine hK _ ?_; clear hK K
        refine Ord.ord_still rfl rfl (by kernel_rfl) (fun K hK => ?_)
        go_big_quiet_op
        refine hK _ ?_; clear hK K
        refine Ord.ord_still rfl rfl (by kernel_rfl) (fun K hK => ?_)
        go_big_quiet_op
        refine hK _ ?_; clear hK K
        refine Ord.ord_still rfl rfl (by kernel_rfl) (fun K hK => ?_)
        go_big_quiet_op
        refine hK _ ?_; clear hK K
        refine Ord.ord_still rfl rfl (by kernel_rfl) (fun K hK => ?_)
        go_big_quiet_op
        refine hK _ ?_; clear hK K
        refine Ord.ord_still rfl rfl (by kernel_rfl) (fun K hK => ?_)
        go_big_quiet_op
        refine hK _ ?_; clear hK K
        refine Ord.ord_still rfl rfl (by kernel_rfl) (fun K hK => ?_)
        go_big_quiet_op
        refine hK _ ?_; clear hK K
        refine Ord.ord_still rfl rfl (by kernel_rfl) (fun K hK => ?_)
        go_big_quiet_op
        refine hK _ ?_; clear hK K
        refine Ord.ord_still rfl rfl (by kernel_rfl) (fun K hK => ?_)
        go_big_quiet_op
        refine hK _ ?_; clear hK K
        refine Ord.ord_still rfl rfl (by kernel_rfl) (fun K hK => ?_)
        go_big_quiet_op
        refine hK _ ?_; clear hK K
        refine Ord.ord_still rfl rfl (by kernel_rfl) (fun K hK => ?_)
        go_big_quiet_op
        refine hK _ ?_; clear hK K
        refine Ord.ord_loud rfl (by kernel_rfl) (fun K hK => ?_)
        go_big_op
        refine (wire_Bytes _ _ _ hc).mono ?_
        rintro e w4 ⟨v4, rfl, ho4, hb4⟩
        have hs4 := str_later ho4 (by omega)
        replace hbel := hbel.trans (hb4.mono hbel.size)
        clear ho4
        refine hK _ _ hb4 ?_
        clear hb4
        clear hK K
        refine Ord.ord_still rfl rfl (by kernel_rfl) (fun K hK => ?_)
        go_big_quiet_op
        refine hK _ ?_; clear hK K
        refine Ord.ord_still rfl rfl (by kernel_rfl) (fun K hK => ?_)
        go_big_quiet_op
        refine hK _ ?_; clear hK K
        refine Ord.ord_still rfl rfl (by kernel_rfl) (fun K hK => ?_)
        go_big_quiet_op
        refine hK _ ?_; clear hK K
        refine Ord.ord_still rfl rfl (by kernel_rfl) (fun K hK => ?_)
        go_big_quiet_op
        refine hK _ ?_; clear hK K
        refine Ord.ord_nil ?_
        go_wp2_with fail
        refine (law01_alive _).mono ?_
        rintro e w9 ⟨rfl, hb9⟩
        have hfin := hbel.trans (hb9.mono hbel.size)
        go_wp2_with fail
        go_ret
        exact ⟨rfl, hfin⟩
      · have hne2 : ((ec : Int) == 0) = false := by simp; omega
        go_wp2_with fail
        have hne2 : ((ec : Int) == 0) = false := by simp; omega
        replace hbel := hbel.drew
        refine Ord.wp_region_ord [(0, false), (1, false), (2, false), (3, false), (4, false), (5, false), (6, false), (7, false), (8, false), (9, false), (10, false), (11, false), (12, false), (15, false), (16, false), (17, false), (18, false), (13, true), (14, false), (19, false), (20, false), (21, false)] (by kernel_rfl) rfl (by kernel_rfl) (by kernel_rfl) (fun _ _ _ d _ h => by cases d <;> exact h) ?_
        refine Ord.ord_still rfl rfl (by kernel_rfl) (fun K hK => ?_)
        go_big_quiet_op
        refine hK _ ?_; clear hK K
        refine Ord.ord_still rfl rfl (by kernel_rfl) (fun K hK => ?_)
        go_big_quiet_op
        refine hK _ ?_; clear hK K
        refine Ord.ord_still rfl rfl (by kernel_rfl) (fun K hK => ?_)
        go_big_quiet_op
        refine hK _ ?_; clear hK K
        refine Ord.ord_skip rfl (by kernel_rfl) (fun K hK => ?_)
        go_big_quiet_op
        refine hK _ ?_; clear hK K
        refine Ord.ord_skip rfl (by kernel_rfl) (fun K hK => ?_)
        go_big_quiet_op
        refine hK _ ?_; clear hK K
        refine Ord.ord_skip rfl (by kernel_rfl) (fun K hK => ?_)
        go_big_quiet_op
        refine hK _ ?_; clear hK K
        refine Ord.ord_skip rfl (by kernel_rfl) (fun K hK => ?_)
        go_big_quiet_op
        refine hK _ ?_; clear hK K
        refine Ord.ord_skip rfl (by kernel_rfl) (fun K hK => ?_)
        go_big_quiet_op
        refine hK _ ?_; clear hK K
        refine Ord.ord_skip rfl (by kernel_rfl) (fun K hK => ?_)
        go_big_quiet_op
        refine hK _ ?_; clear hK K
        refine Ord.ord_skip rfl (by kernel_rfl) (fun K hK => ?_)
        go_big_quiet_op
        refine hK _ ?_; clear hK K
        refine Ord.ord_skip rfl (by kernel_rfl) (fun K hK => ?_)
        go_big_quiet_op
        refine hK _ ?_; clear hK K
        refine Ord.ord_skip rfl (by kernel_rfl) (fun K hK => ?_)
        go_big_quiet_op
        refine hK _ ?_; clear hK K
        refine Ord.ord_skip rfl (by kernel_rfl) (fun K hK => ?_)
        go_big_quiet_op
        refine hK _ ?_; clear hK K
        refine Ord.ord_skip rfl (by kernel_rfl) (fun K hK => ?_)
        go_big_quiet_op
        refine hK _ ?_; clear hK K
        refine Ord.ord_skip rfl (by kernel_rfl) (fun K hK => ?_)
        go_big_quiet_op
        refine hK _ ?_; clear hK K
        refine Ord.ord_skip rfl (by kernel_rfl) (fun K hK => ?_)
        go_big_quiet_op
        refine hK _ ?_; clear hK K
        refine Ord.ord_skip rfl (by kernel_rfl) (fun K hK => ?_)
        go_big_quiet_op
        refine hK _ ?_; clear hK K
        refine Ord.ord_skip rfl (by kernel_rfl) (fun K hK => ?_)
        go_big_quiet_op
        refine hK _ ?_; clear hK K
        refine Ord.ord_skip rfl (by kernel_rfl) (fun K hK => ?_)
        go_big_quiet_op
        refine hK _ ?_; clear hK K
        refine Ord.ord_skip rfl (by kernel_rfl) (fun K hK => ?_)
        go_big_quiet_op
        refine hK _ ?_; clear hK K
        refine Ord.ord_skip rfl (by kernel_rfl) (fun K hK => ?_)
        go_big_quiet_op
        refine hK _ ?_; clear hK K
        refine Ord.ord_still rfl rfl (by kernel_rfl) (fun K hK => ?_)
        go_big_quiet_op
        refine hK _ ?_; clear hK K
        refine Ord.ord_nil ?_
        go_wp2_with fail
        refine (law01_alive _).mono ?_
        rintro e w9 ⟨rfl, hb9⟩
        have hfin := hbel.trans (hb9.mono hbel.size)
        go_wp2_with fail
        go_ret
        exact ⟨rfl, hfin⟩

end Go.Proofs.Ytbnonbpdihglaaa
