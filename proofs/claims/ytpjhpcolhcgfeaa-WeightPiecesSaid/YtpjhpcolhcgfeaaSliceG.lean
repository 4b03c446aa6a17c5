/-
  's[lo:hi]' of slices whose elements have several cells.
-/
import Derived.Test.YtpjhpcolhcgfeaaStructs
set_option linter.unusedVariables false
set_option linter.unusedSimpArgs false
set_option maxRecDepth 1000000
namespace Go.Proofs.Ytpjhpcolhcgfeaa
open Go.RowKit

section
variable {E : Elt} {w : World} {v : Value} {vs : List (List Value)}

theorem RdG.cut (hE : E.Ok) (h : RdG E w v vs) (lo hi : Nat) (h1 : lo ≤ hi) (h2 : hi ≤ vs.length) :
    ∃ v', (∀ u, (Instr.slice E.S v (some (.int .i64 (lo : Int))) (some (.int .i64 (hi : Int))) none).run Try.prog u = .ok v' u) ∧ ∀ w', RdG E w' v vs → RdG E w' v' ((vs.take hi).drop lo) := by
  obtain ⟨⟨ao, cap, rfl, hcap, hnil, hsome⟩, hcel, hwid, hsm⟩ := h
  refine ⟨.slice (if cap = lo then ao else ao.map (·.add (lo * E.n))) (hi - lo) (cap - lo), fun u => ?_, fun w' h' => ?_⟩
  · rw [run_slice_lh (P := Try.prog) u E.S ao vs.length cap (by rw [hE.hel]; exact hE.hS) .i64 .i64 lo hi (by omega) (by omega) (by omega)]
    obtain ⟨inf, hi1, hi2⟩ := Option.map_eq_some_iff.1 hE.info
    have hsz : inf.size = E.n := by
      have := congrArg (fun x => x.2.1) hi2
      exact this
    have hi1' : Try.prog.info? (Try.prog.elem E.S) = some inf := by rw [hE.hel]; exact hi1
    simp [sizeOf, typeInfo, hi1', hsz, Result.andThen, sliced]
  · have hlen : ((vs.take hi).drop lo).length = hi - lo := by simp; omega
    have hadr : ∀ b o, 0 < hi - lo → ao = some ⟨b, o, none⟩ → (if cap = lo then ao else ao.map (·.add (lo * E.n))) = some ⟨b, o + lo * E.n, none⟩ := by
      intro b o hp he
      subst he
      rw [if_neg (by omega)]
      simp [Addr.add]
    refine ⟨⟨_, _, by rw [hlen], by rw [hlen]; omega, ?_, ?_⟩, ?_, ?_, by rw [hlen]; omega⟩
    · intro hn
      by_cases hc : cap = lo
      · omega
      · rw [if_neg hc] at hn
        have : ao = none := by cases ao <;> simp_all
        have := hnil this
        omega
    · intro hp
      rw [hlen] at hp
      obtain ⟨b, o, he⟩ := hsome (by omega)
      exact ⟨b, o + lo * E.n, hadr b o hp he⟩
    · intro i hi' j u hu
      rw [hlen] at hi'
      obtain ⟨b, o, he⟩ := hsome (by omega)
      have eg : ((vs.take hi).drop lo).getD i [] = vs.getD (lo + i) [] := by
        simp [List.getD]
        rw [List.getElem?_take_of_lt (by omega)]
      rw [eg] at hu
      have hc := h'.cells (lo + i) (by omega) j u hu
      rw [hadr b o (by omega) he]
      subst he
      rw [adr_lit] at hc ⊢
      rw [← hc]
      congr 2
      rw [Nat.add_mul]; omega
    · intro x hx
      exact hwid x (List.mem_of_mem_take (List.mem_of_mem_drop hx))

theorem RdG.from (hE : E.Ok) (h : RdG E w v vs) (lo : Nat) (h1 : lo ≤ vs.length) :
    ∃ v', (∀ u, (Instr.slice E.S v (some (.int .i64 (lo : Int))) none none).run Try.prog u = .ok v' u) ∧ ∀ w', RdG E w' v vs → RdG E w' v' (vs.drop lo) := by
  obtain ⟨v', hr, hd⟩ := h.cut hE lo vs.length h1 (Nat.le_refl _)
  refine ⟨v', fun u => ?_, fun w' h' => by have := hd w' h'; rwa [List.take_length] at this⟩
  obtain ⟨⟨ao, cap, rfl, hcap, hnil, hsome⟩, hcel, hwid, hsm⟩ := h
  rw [← hr u, run_slice_lh (P := Try.prog) u E.S ao vs.length cap (by rw [hE.hel]; exact hE.hS) .i64 .i64 lo vs.length (by omega) (by omega) (by omega),
    run_slice_l (P := Try.prog) u E.S ao vs.length cap (by rw [hE.hel]; exact hE.hS) .i64 lo (by omega) (by omega)]
  simp

theorem RdG.upto (hE : E.Ok) (h : RdG E w v vs) (hi : Nat) (h1 : hi ≤ vs.length) :
    ∃ v', (∀ u, (Instr.slice E.S v none (some (.int .i64 (hi : Int))) none).run Try.prog u = .ok v' u) ∧ ∀ w', RdG E w' v vs → RdG E w' v' (vs.take hi) := by
  obtain ⟨v', hr, hd⟩ := h.cut hE 0 hi (Nat.zero_le _) h1
  refine ⟨v', fun u => ?_, fun w' h' => by have := hd w' h'; rwa [List.drop_zero] at this⟩
  obtain ⟨⟨ao, cap, rfl, hcap, hnil, hsome⟩, hcel, hwid, hsm⟩ := h
  rw [← hr u, run_slice_lh (P := Try.prog) u E.S ao vs.length cap (by rw [hE.hel]; exact hE.hS) .i64 .i64 ((0 : Nat) : Int) hi (by omega) (by omega) (by omega),
    run_slice_h (P := Try.prog) u E.S ao vs.length cap (by rw [hE.hel]; exact hE.hS) .i64 hi (by omega) (by omega)]
  simp
end
end Go.Proofs.Ytpjhpcolhcgfeaa
