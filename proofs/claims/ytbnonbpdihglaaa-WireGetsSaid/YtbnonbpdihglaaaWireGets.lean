/-
  WireGets: of any bytes the number, and the bytes, that they begin with are the document's, or why there are none. For every input.
-/
import Derived.Test.YtbnonbpdihglaaaAlive
import Derived.Test.YtbnonbpdihglaaaWireRef2
import Derived.Test.YtbnonbpdihglaaaLater
set_option linter.unusedVariables false
set_option linter.unusedSimpArgs false
namespace Go.Proofs.Ytbnonbpdihglaaa
open Go.RowKit

theorem getB_le (l : List UInt8) (most : Int) : (getB l most).1.length ≤ l.length := by
  unfold getB
  split
  · simp
  · split
    · simp
    · split
      · simp
      · simp; omega

set_option maxHeartbeats 4000000 in
set_option maxRecDepth 20000 in
theorem wireGets_walk (v : Value) (l : List UInt8) (most : Int) (w : World) (h : Rd w v l) (hm : -9223372036854775808 ≤ most ∧ most ≤ 9223372036854775807) :
    Calls Try.prog 4 #[v, .int .i64 most] w fun e w' => e = .returned (.bool true) ∧ Below w.heap.size w w' := by
  have hsm := h.small
  have hz := getU_err l
  have hg := getU_good l
  have hcd := getU_codes l
  have hbl := getB_le l most
  rcases hr : getU l with ⟨x, n, er⟩
  rw [hr] at hz hg hcd
  dsimp only at hz hg hcd
  have HR := Lib.hid hr
  clear hr
  rcases hr : getB l most with ⟨c, k, ec⟩
  rw [hr] at hbl
  dsimp only at hbl
  have HB := Lib.hid hr
  clear hr
  obtain ⟨gi, hgi⟩ : ∃ gi : Int, gi = if er = 0 then zag x else 0 := ⟨_, rfl⟩
  have HG := Lib.hid hgi
  clear hgi
  go_enter Try.func4, Try.ntmps4
  go_wp2_with fail
  refine (wire_GetUint v l _ h).mono ?_
  rintro e w' ⟨rfl, rfl⟩
  rw [HR.out]; dsimp only
  go_wp2_with fail
  refine (ref_GetUint v l _ h).mono ?_
  rintro e w' ⟨rfl, rfl⟩
  rw [HR.out]; dsimp only
  go_wp2_with fail
  refine (wire_GetInt v l _ h).mono ?_
  rintro e w' ⟨rfl, rfl⟩
  rw [HR.out]; dsimp only
  rw [← HG.out]
  go_wp2_with fail
  refine (wire_GetBytes v l most hm.1 hm.2 _ h).mono ?_
  rintro e w1 ⟨v1, rfl, ho1, hb1⟩
  rw [HB.out] at ho1 ⊢; dsimp only at ho1 ⊢
  have h1 := h.later hb1 (Nat.le_refl _)
  go_wp2_with fail
  refine (ref_GetBytes v l most hm.1 hm.2 _ h1).mono ?_
  rintro e w2 ⟨v2, rfl, ho2, hb2⟩
  rw [HB.out] at ho2 ⊢; dsimp only at ho2 ⊢
  have hbel := hb1.trans (hb2.mono hb1.size)
  have ho1' := ho1.later hb2 (Nat.le_refl _)
  go_wp2_with fail
  refine (law01_alive _).mono ?_
  rintro e w3 ⟨rfl, hb3⟩
  have hs1 := ((ho1'.later hb3 (Nat.le_refl _)).rd (by omega)).str
  have hs2 := ((ho2.later hb3 (Nat.le_refl _)).rd (by omega)).str
  have hbel' := hbel.trans (hb3.mono hbel.size)
  clear ho1 ho2 ho1' hb1 hb2 hb3 h1 hbel h hbl
  by_cases he : er = 0
  · subst he
    obtain ⟨hx, hn1, hn2, hn3⟩ := hg rfl
    clear hz hg hcd
    have hgi := HG.out
    rw [if_pos rfl] at hgi
    subst hgi
    go_wp2_with (go_at_call 20; refine (ref_Zag _ (by omega) (by omega) _).mono ?_; rintro e w' ⟨rfl, rfl⟩)
    go_ret
    exact ⟨rfl, hbel'⟩
  · obtain ⟨hx, hn⟩ := hz he
    subst hx hn
    have hne : ((er : Int) != 0) = true := by simp; omega
    have hne' : ((er : Int) == 0) = false := by simp; omega
    have hgi := HG.out
    rw [if_neg he] at hgi
    subst hgi
    clear hg he
    go_wp2_with fail
    go_ret
    exact ⟨rfl, hbel'⟩

end Go.Proofs.Ytbnonbpdihglaaa
