/-
  row.Same.
-/
import Derived.Test.YtkljkpffpdpphaaGreatDoorRowPlain
set_option linter.unusedVariables false
set_option linter.unusedSimpArgs false
set_option maxRecDepth 1000000
namespace Go.Proofs.YtkljkpffpdpphaaGreatDoor
open Go.RowKit Go.Shelf

attribute [local go_sem] Oper.semAt_some

def AllEq (l : List (CellB × CellB)) : Prop := ∀ p ∈ l, p.1 = p.2
def SomeNe (l : List (CellB × CellB)) : Prop := ∃ p ∈ l, p.1 ≠ p.2
theorem AllEq.snoc {l : List (CellB × CellB)} (h : AllEq l) (x : CellB) : AllEq (l ++ [(x, x)]) := fun p hp => by
  rcases List.mem_append.1 hp with hp | hp
  · exact h p hp
  · rw [List.mem_singleton.1 hp]
theorem SomeNe.snoc (l : List (CellB × CellB)) {x y : CellB} (h : x ≠ y) : SomeNe (l ++ [(x, y)]) := ⟨(x, y), by simp, h⟩
theorem zip_same' : ∀ {a b : List CellB}, a.length = b.length → ((∀ p ∈ a.zip b, p.1 = p.2) ↔ a = b)
  | [], [], _ => by simp
  | x :: r, y :: s, h => by
    have ih := zip_same' (a := r) (b := s) (by simpa using h)
    rw [List.zip_cons_cons]
    constructor
    · intro h9
      have e1 : x = y := h9 (x, y) (by simp)
      have e2 : r = s := ih.1 (fun p hp => h9 p (by simp [hp]))
      rw [e1, e2]
    · intro h9
      injection h9 with e1 e2
      subst e1
      intro p hp
      rcases List.mem_cons.1 hp with rfl | hp
      · rfl
      · exact ih.2 e2 p hp
  | [], _ :: _, h => by simp at h
  | _ :: _, [], h => by simp at h

theorem zip_same {a b : List CellB} (h : a.length = b.length) : AllEq (a.zip b) ↔ a = b := zip_same' h

set_option maxHeartbeats 8000000 in
theorem row_Same (v1 v2 : Value) (a b : List CellB) (w : World) (h1 : RdE w v1 a) (h2 : RdE w v2 b) :
    Calls Tryz.prog 16 #[v1, v2] w fun e w' => e = .returned (.bool (decide (a = b))) ∧ Below w.heap.size w w' := by
  have hl1 := h1.len
  have hl2 := h2.len
  by_cases hlen : a.length = b.length
  · have HL := Lib.hid hlen
    have HZ := Lib.hid (zip_same hlen)
    obtain ⟨n, hn⟩ : ∃ n, n = a.length := ⟨_, rfl⟩
    rw [← hlen, ← hn] at hl2
    rw [← hn] at hl1
    have R1 := Lib.hid (fun wz (hz : Below w.heap.size w wz) => h1.later hz (Nat.le_refl _))
    have R2 := Lib.hid (fun wz (hz : Below w.heap.size w wz) => h2.later hz (Nat.le_refl _))
    have MK := Lib.hid (fun wz (hz : Below w.heap.size w wz) => bothEE_make v1 v2 a b wz (h1.later hz (Nat.le_refl _)) (h2.later hz (Nat.le_refl _)))
    clear hn hlen h1 h2
    refine (callsIn_wide (n := 5)).1 ?_
    refine callsIn_of_wp_marks Tryz.func16 rfl trivial ?_ rfl
    simp only [Tryz.ntmps16, List.size_toArray, List.length_cons, List.length_nil, Nat.reduceAdd, Nat.reduceSub, Array.replicate_succ, Array.replicate_zero, List.push_toArray, List.append_toArray, List.nil_append, List.cons_append]
    have hA0 := Lib.hid ((Below.refl w.heap.size w).alloc (Nat.le_refl _) (.cells #[.bool false] 4))
    gi_wp2_with (refine ⟨trivial, ?_⟩; gi_at_call 27; refine (callsIn_wide.2 (MK.out _ hA0.out)).mono ?_; rintro e w' ⟨rfl, rfl⟩)
    obtain ⟨W0, hW0⟩ : ∃ W0, ((w.alloc (.cells #[.bool false] 4)).alloc (.cells #[v1] 23)).alloc (.cells #[v2] 23) = W0 := ⟨_, rfl⟩
    obtain ⟨hsz, bR, b1, b2, hB0⟩ := new3 w (.cells #[.bool false] 4) (.cells #[v1] 23) (.cells #[v2] 23)
    rw [hW0] at hsz bR b1 b2 hB0 ⊢
    clear hW0
    have b1' : Boxed W0 (w.heap.size + 1) 23 v1 := b1
    have b2' : Boxed W0 (w.heap.size + 1 + 1) 23 v2 := b2
    have bR' : Boxed W0 w.heap.size 4 (.bool false) := bR
    clear b1 b2 bR
    refine range_through (by omega) (gf := 44) (lb := #[.pointer (some ⟨w.heap.size + 1, 0, none⟩), .pointer (some ⟨w.heap.size + 1 + 1, 0, none⟩)]) rfl (enters_of Tryz.func44 (by kernel_rfl) rfl)
      (bothEE_through (5 - 1) (by omega) (w.heap.size + 1) (w.heap.size + 1 + 1) v1 v2 a b HL.out w R1.out R2.out W0 hB0 b1'.cell b2'.cell) only_t (only_b (by omega) (by omega) (by omega)) (fun _ => rfl)
      (fun pre W => (Boxed W w.heap.size 4 (.bool false) ∧ Below w.heap.size w W) ∧ AllEq pre)
      (fun c pre W => (Boxed W w.heap.size 4 (.bool false) ∧ Below w.heap.size w W) ∧ (c = .ret ∧ SomeNe pre))
      (OwnFrom.and (OwnFrom.and (Own.from (boxed_own _ _ _) _) (ownFrom_below (Nat.le_refl _) (by omega))) (ownFrom_pure _ _))
      (fun c => OwnFrom.and (OwnFrom.and (Own.from (boxed_own _ _ _) _) (ownFrom_below (Nat.le_refl _) (by omega))) (ownFrom_pure _ _))
      ⟨⟨bR', hB0⟩, fun p hp => by simp at hp⟩
      (fun (x : CellB × CellB) a' W => ∃ Bx By, (W.heap[Bx]? = some (Obj.cells #[.int .u64 (x.1.1 : Int), .string x.1.2] 45 (0, 0)) ∧ W.heap[By]? = some (Obj.cells #[.int .u64 (x.2.1 : Int), .string x.2.2] 45 (0, 0))) ∧
        a' = { tmps := #[v1, v2, undef, undef, .pointer (some ⟨w.heap.size, 0, none⟩), .pointer (some ⟨Bx, 0, none⟩), .pointer (some ⟨By, 0, none⟩), v1, .int .i64 n, v2, .int .i64 n, .bool false, v1, v2,
          .func (.func 44) #[] #[.pointer (some ⟨w.heap.size + 1, 0, none⟩), .pointer (some ⟨w.heap.size + 1 + 1, 0, none⟩)],
          .agg #[.int .u64 (x.1.1 : Int), .string x.1.2], .agg #[.int .u64 (x.2.1 : Int), .string x.2.2], undef, undef, undef], defers := [] })
      ?_ ?_ ?_ ?_ ?_
    · rintro x a' s X Y row ⟨Bx, By, ⟨h4, h5⟩, h6⟩ hg hr
      exact ⟨Bx, By, ⟨cells_kept h4 hg hr, cells_kept h5 hg hr⟩, h6⟩
    · rintro l pre ⟨⟨nm, tx⟩, ⟨nn, ty⟩⟩ W K hi hx hK
      unfold encEE
      dsimp only
      gi_wp2
      obtain ⟨N0, N1, N2, N3⟩ := new2 W (.cells #[.int .u64 (nm : Int), .string tx] 45) (.cells #[.int .u64 (nn : Int), .string ty] 45)
      exact hK _ _ (keepsFrom_below N3) (only_below N3) ⟨⟨boxed_below hi.1.1 N3, hi.1.2.trans (N3.mono hi.1.2.size)⟩, hi.2⟩ ⟨_, _, ⟨N1, N2⟩, rfl⟩
    · rintro l pre ⟨⟨nm, tx⟩, ⟨nn, ty⟩⟩ a' W ⟨⟨hi1, hi2⟩, hi3⟩ ⟨Bx, By, ⟨hx1, hx2⟩, rfl⟩ hlt hx
      have e2 := new_cellC hx1 (i := 0) rfl
      have e3 := new_cellC hx1 (i := 1) rfl
      have e4 := new_cellC hx2 (i := 0) rfl
      have e5 := new_cellC hx2 (i := 1) rfl
      have HI1 := Lib.hid hi1
      have HI2 := Lib.hid hi2
      have HI3 := Lib.hid hi3
      have hbc := hi1.cell
      have hbf := hi1.frozen
      clear hx1 hx2 hi1 hi2 hi3 hx hlt
      by_cases hke : nm = nn
      · subst hke
        by_cases hst : tx = ty
        · subst hst
          gi_wp2
          exact ⟨KeepsFrom.refl _ _, Only.refl _ _, ⟨HI1.out, HI2.out⟩, HI3.out.snoc _⟩
        · obtain ⟨q1, q2⟩ := str_ne hst
          have HN := Lib.hid hst
          clear hst
          gi_wp2
          refine ⟨(KeepsOthers.setCell _ _ _).from _, ⟨HI1.out.set _, HI2.out.setCell (p := ⟨w.heap.size, 0, none⟩) (Nat.le_refl _) _⟩, rfl, SomeNe.snoc _ (fun h => HN.out (by injection h))⟩
      · have q1 : ((nm : Int) == (nn : Int)) = false := by rw [beq_eq_false_iff_ne]; omega
        have q2 : ((nm : Int) != (nn : Int)) = true := by rw [bne_iff_ne]; omega
        have q3 : (nm == nn) = false := by simpa using hke
        have q4 : (nm != nn) = true := by simpa using hke
        have HN := Lib.hid hke
        clear hke
        gi_wp2
        refine ⟨(KeepsOthers.setCell _ _ _).from _, ⟨HI1.out.set _, HI2.out.setCell (p := ⟨w.heap.size, 0, none⟩) (Nat.le_refl _) _⟩, rfl, SomeNe.snoc _ (fun h => HN.out (by injection h))⟩
    · rintro D W hD ⟨⟨hb, hB⟩, hp⟩ hK
      have hbc := hb.cell
      have hbf := hb.frozen
      gi_wp2
      have hK' := (KeepsOthers.setCell W ⟨w.heap.size, 0, none⟩ (.bool true)).same D _ hK rfl
      have hc5 := cell_kept (hb.set (.bool true)).cell (grownBy_putObj' _ D (.deferred none)) (fun r e => by cases e; exact ⟨_, hK', rfl⟩)
      refine ⟨by simp, .inl ⟨_, _, rfl, run_takeDeferred hK', ?_⟩⟩
      refine ⟨.bool true, by simp [results, Tryz.results16, go_sem, hc5], by rw [decide_eq_true (HZ.out.1 hp)], ?_⟩
      exact (hB.setCell (p := ⟨w.heap.size, 0, none⟩) (Nat.le_refl _) _).trans (belowK_b (w := w) (Nat.le_refl _) _ D _ _ (by omega) hK' rfl rfl)
    · rintro D c k W hD hk ⟨⟨hb, hB⟩, rfl, p, hp, hne⟩ hK
      gi_wp2
      have hc5 := cell_kept hb.cell (grownBy_putObj' _ D (.deferred none)) (fun r e => by cases e; exact ⟨_, hK, rfl⟩)
      refine ⟨by simp, .inl ⟨_, _, rfl, run_takeDeferred hK, ?_⟩⟩
      refine ⟨_, by simp [results, Tryz.results16, go_sem, hc5]; rfl, by rw [decide_eq_false (fun h => hne (HZ.out.2 h p (List.mem_of_mem_take hp)))], ?_⟩
      exact hB.trans (belowK_b (w := w) (Nat.le_refl _) _ D _ _ (by omega) hK rfl rfl)
  · have HE := Lib.hid (show decide (a = b) = false from decide_eq_false (fun h => hlen (by rw [h])))
    have q : ((a.length : Int) != (b.length : Int)) = true := by rw [bne_iff_ne]; omega
    have q2 : (a.length != b.length) = true := by simpa using hlen
    clear hlen h1 h2
    go_enter Tryz.func16, Tryz.ntmps16
    go_wp2
    refine bodyPost_ret (v := .bool false) (by simp [results, Tryz.results16, go_sem]) rfl ?_
    exact ⟨by rw [HE.out], (Below.refl w.heap.size w).alloc (Nat.le_refl _) _⟩

end Go.Proofs.YtkljkpffpdpphaaGreatDoor
