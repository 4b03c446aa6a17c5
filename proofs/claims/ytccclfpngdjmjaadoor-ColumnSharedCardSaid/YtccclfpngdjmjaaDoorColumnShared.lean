/-
  ColumnShared: the law's own walk.
-/
import Derived.Test.YtccclfpngdjmjaaDoorColumnOne
import Derived.Test.YtccclfpngdjmjaaDoorColSharedQ
import Derived.Deep.RegionHeld3
import Derived.Deep.QuietTactic
import Derived.BigQuiet
set_option linter.unusedVariables false
set_option linter.unusedSimpArgs false
set_option maxRecDepth 1000000
namespace Go.Proofs.YtccclfpngdjmjaaDoor
open Go.RowKit Go.Shelf

set_option maxHeartbeats 16000000 in
theorem columnShared_walk (s : ByteArray) (l : List UInt8) (t : ByteArray) (m : List UInt8) (x y : Int) (w : World) (hs : RdS s l) (ht : RdS t m) (hx : -9223372036854775808 ≤ x ∧ x ≤ 9223372036854775807) (hy : -9223372036854775808 ≤ y ∧ y ≤ 9223372036854775807) (hT : Tabs w) :
    Calls Tryd.prog 5 #[.string s, .string t, .agg #[.int .i64 x, .int .i64 y]] w fun e w' => e = .returned (.bool true) ∧ Below w.heap.size w w' := by
  have hl1 := hs.len
  have hl2 := ht.len
  have HS := Lib.hid hs
  have HS2 := Lib.hid ht
  have HT := Lib.hid hT
  have hss := hs.small
  have hst := ht.small
  have hsz1 := hs.size9
  have hsz2 := ht.size9
  have HXb := Lib.hid hx
  have HYb := Lib.hid hy
  obtain ⟨N0, N1, N2⟩ := new1 w (.cells #[.int .i64 x, .int .i64 y] 38)
  have HB0 := Lib.hid N2
  have HQ0 := Lib.hid N1
  clear hs ht hT hx hy N0 N1 N2
  by_cases hgo : l.length ≤ 1000 ∧ m.length ≤ 1000
  · obtain ⟨g1, g2⟩ := hgo
    have d1 : decide ((1000 : Int) < (l.length : Int)) = false := decide_eq_false (by omega)
    have d2 : decide ((1000 : Int) < (m.length : Int)) = false := decide_eq_false (by omega)
    obtain ⟨N, hN⟩ : ∃ N, N = shr l m := ⟨_, rfl⟩
    have hNl := (shr_le l m).1
    have hNm := (shr_le l m).2
    have hcm := shr_comm l m
    rw [← hN] at hNl hNm hcm
    have heq : t.extract 0 N = s.extract 0 N := by
      rw [(HS.out.takeS N).eq, (HS2.out.takeS N).eq, hN, shr_take]
    have HQa := Lib.hid (fun wz => ref_SharedQ s t l m wz HS.out HS2.out)
    have HQb := Lib.hid (fun wz => column_SharedQ t s m l wz HS2.out HS.out)
    have HQc := Lib.hid (fun wz => column_SharedQ s t l m wz HS.out HS2.out)
    rw [← hN] at HQa HQc
    rw [← hcm] at HQb
    obtain ⟨mn, hmn0⟩ : ∃ mn, mn = min l.length m.length := ⟨_, rfl⟩
    have hNn : N ≤ mn := by omega
    have hif : (if (m.length : Int) < (l.length : Int) then (m.length : Int) else (l.length : Int)) = (mn : Int) := by split <;> omega
    have hmn : ∀ u, (Builtin.min_ #[3, 3] 3 #[.int .i64 (l.length : Int), .int .i64 (m.length : Int)]).run Tryd.prog u = .ok (.int .i64 (mn : Int)) u := by
      intro u; rw [← hif]; rfl
    have e1 : ((N : Int) != (N : Int)) = false := by simp
    have e2 : decide ((N : Int) < 0) = false := decide_eq_false (by omega)
    have e3 : decide ((N : Int) > (mn : Int)) = false := decide_eq_false (by omega)
    have e4 : decide (mn < N) = false := decide_eq_false (by omega)
    clear hN hcm hmn0 hif
    go_enter Tryd.func5, Tryd.ntmps5
    go_wp2_with fail
    generalize w.alloc (.cells #[.int .i64 x, .int .i64 y] 38) = w1 at *
    refine (HQc.out w1).mono ?_
    rintro e w2 ⟨rfl, q, rfl⟩
    have HB2 := Lib.hid (below_drewN HB0.out q)
    have HQ2 := Lib.hid (show (w1.drewN q).heap[w.heap.size]? = some (.cells #[.int .i64 x, .int .i64 y] 38 (0, 0)) from HQ0.out)
    generalize w1.drewN q = w2 at *
    clear HQc
    go_wp2_with fail
    go_quiet (first
      | (go_at_call 19; exact Calls.quiet_of (HQa.out _))
      | (go_at_call 18; exact Calls.quiet_of (HQb.out _)))
    clear HQa HQb
    generalize hw3 : w2.drewN _ = w3
    have HB3 := Lib.hid (show Below w.heap.size w w3 by rw [← hw3]; exact below_drewN HB2.out _)
    have hq3 : w3.heap[w.heap.size]? = some (.cells #[.int .i64 x, .int .i64 y] 38 (0, 0)) := by rw [← hw3]; exact HQ2.out
    have HQ3 := Lib.hid hq3
    have sK : ∀ u, Below w3.heap.size w3 u → (u.cell? ⟨w.heap.size, 0, none⟩ = some (.int .i64 x) ∧ u.cell? ⟨w.heap.size, 1, none⟩ = some (.int .i64 y) ∧ Below w3.heap.size w3 u) := fun u hu => ⟨new_cellC (i := 0) (keepB HQ3.out hu) rfl, new_cellC (i := 1) (keepB HQ3.out hu) rfl, hu⟩
    have kB0 := (Below.refl w3.heap.size w3).drew
    have k0 := sK _ kB0
    have kC : ∀ (k : Nat) (u v : World), Below k u v → k = u.heap.size → Below w3.heap.size w3 u → Below w3.heap.size w3 v := fun k u v hb hk h => h.trans ((hk ▸ hb : Below u.heap.size u v).mono h.size)
    have kF : ∀ u, Below w3.heap.size w3 u → Below w.heap.size w u := fun u h => HB3.out.trans (h.mono HB3.out.size)
    have kT : ∀ u, Below w3.heap.size w3 u → Tabs u := fun u h => HT.out.later (kF u h)
    have HCb := Lib.hid (fun wz => column_BoundS x y wz HXb.out HYb.out)
    have HRb := Lib.hid (fun wz => ref_BoundS x y wz HXb.out HYb.out)
    generalize boundV x y = bd at *
    have eb : ((bd : Int) == (bd : Int)) = true := by simp
    clear hq3 hw3 HB2 HQ2 HQ0 HB0
    go_wp2_with fail
    go_region_held3 (fun u => (u.cell? ⟨w.heap.size, 0, none⟩ = some (.int .i64 x) ∧ u.cell? ⟨w.heap.size, 1, none⟩ = some (.int .i64 y) ∧ Below w3.heap.size w3 u)) (first | exact k0 | (refine sK _ ?_; assumption)) ((first
          | (go_at_call 11; refine (law09_alive _ (kT _ (by first | exact kB0 | assumption))).mono ?_; rintro e wn ⟨rfl, hb⟩; have hbw := kC _ _ _ hb rfl (by first | exact kB0 | assumption))
          | (go_at_call 20; refine (HCb.out _).mono ?_; rintro e wn ⟨rfl, rfl⟩)
          | (go_at_call 21; refine (HRb.out _).mono ?_; rintro e wn ⟨rfl, rfl⟩)))
    all_goals (
      go_wp2_with fail
      go_ret
      exact ⟨rfl, kF _ (by assumption)⟩)
  · have hor : decide ((1000 : Int) < (l.length : Int)) = true ∨ (decide ((1000 : Int) < (l.length : Int)) = false ∧ decide ((1000 : Int) < (m.length : Int)) = true) := by
      by_cases h : 1000 < l.length
      · exact .inl (decide_eq_true (by omega))
      · exact .inr ⟨decide_eq_false (by omega), decide_eq_true (by omega)⟩
    have CA := Lib.hid (law09_alive _ (HT.out.later HB0.out))
    rcases hor with d1 | ⟨d1, d2⟩
    all_goals (
      clear hgo
      go_enter Tryd.func5, Tryd.ntmps5
      go_wp2_with fail
      refine CA.out.mono ?_
      rintro e w2 ⟨rfl, hb⟩
      have HB2 := Lib.hid (HB0.out.trans (hb.mono HB0.out.size))
      clear hb CA
      go_wp2
      go_ret
      exact ⟨rfl, HB2.out⟩)

end Go.Proofs.YtccclfpngdjmjaaDoor
