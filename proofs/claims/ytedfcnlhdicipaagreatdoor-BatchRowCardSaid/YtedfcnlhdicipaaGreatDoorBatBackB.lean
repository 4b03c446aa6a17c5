/-
  What the laws ask of sets that were collected: they are sets, read back of their bytes; how many bytes their texts have (no program in it, but for contracts).
-/
import Derived.Test.YtedfcnlhdicipaaGreatDoorBatLawKit
set_option linter.unusedVariables false
set_option linter.unusedSimpArgs false
set_option maxRecDepth 1000000
namespace Go.Proofs.YtedfcnlhdicipaaGreatDoor
open Go.RowKit Go.Shelf

theorem clc_set {cs : List ColB} {ps : List PairB} (hP : PSO ps) (h : clcE cs ps = 0) : PSO (clcO cs ps) ∧ chkZ cs (clcO cs ps) = 0 := by
  obtain ⟨hS, hV, hw, hl⟩ := (clcE_zero hP).1 h
  have e : clcO cs ps = canonC cs ps := by unfold clcO; rw [if_pos h]
  rw [e]
  have hp := canon_pso hP hV hw
  exact ⟨hp, (chkZ_zero hp).2 ⟨hS, hl, Z.canon_set (to_row cs) hV⟩⟩

theorem ins_len10 {R : Type} [DecidableEq R] (cmp : R → R → Int) (r : R) (x : Int) : ∀ ps : List (R × Int), (Z.ins cmp r x ps).length ≤ ps.length + 1
  | [] => by simp [Z.ins]
  | p :: t => by
    have ih := ins_len10 cmp r x t
    rw [Z.ins]
    split
    · rw [List.length_cons, List.length_cons]; omega
    · split
      · rw [List.length_cons, List.length_cons]; omega
      · rw [List.length_cons, List.length_cons]; omega
theorem from_len10 {R : Type} [DecidableEq R] (cmp : R → R → Int) : ∀ (ps acc : List (R × Int)), (Z.partsFrom cmp acc ps).length ≤ acc.length + ps.length
  | [], acc => by simp [Z.partsFrom]
  | p :: t, acc => by
    have h1 := ins_len10 cmp p.1 p.2 acc
    have h2 := from_len10 cmp t (Z.ins cmp p.1 p.2 acc)
    have e : Z.partsFrom cmp acc (p :: t) = Z.partsFrom cmp (Z.ins cmp p.1 p.2 acc) t := rfl
    rw [e, List.length_cons]; omega
theorem clc_len (cs : List ColB) (ps : List PairB) : (clcO cs ps).length ≤ ps.length := by
  unfold clcO
  split
  · have h1 := from_len10 (cmpR cs) ps []
    have h2 : (Z.nz (Z.parts (cmpR cs) ps)).length ≤ (Z.parts (cmpR cs) ps).length := List.length_filter_le _ _
    have e : canonC cs ps = Z.nz (Z.parts (cmpR cs) ps) := rfl
    have e2 : Z.parts (cmpR cs) ps = Z.partsFrom (cmpR cs) [] ps := rfl
    rw [e2] at h2 e
    rw [e]
    simp at h1
    omega
  · simp

theorem size_fold : ∀ (r : List CellB) (x : Int), r.length ≤ 100 → (∀ c ∈ r, c.2.size ≤ 256) → 0 ≤ x → x + 256 * (r.length : Int) ≤ 1000000 → r.foldl (fun n c => wrap64 (n + (c.2.size : Int))) x = x + (sumT (cesL r) : Int)
  | [], x, _, _, _, _ => by simp [cesL, sumT]
  | c :: t, x, hl, h, h0, h1 => by
    have hc := h c (by simp)
    simp only [List.length_cons] at h1 hl ⊢
    push_cast at h1
    have e : wrap64 (x + (c.2.size : Int)) = x + (c.2.size : Int) := w64_inG ⟨by omega, by omega⟩
    rw [List.foldl_cons, e, size_fold t (x + (c.2.size : Int)) (by omega) (fun d hd => h d (by simp [hd])) (by omega) (by omega)]
    have e2 : sumT (cesL (c :: t)) = c.2.size + sumT (cesL t) := by
      unfold cesL
      rw [List.map_cons, sumT]
      rfl
    rw [e2]; push_cast; omega
theorem size_text {cs : List ColB} {r : List CellB} (h : errRow cs r = 0) : sizeW r = (sumT (cesL r) : Int) ∧ sumT (cesL r) ≤ 2048 := by
  have hs := row_small h
  have h1 := size_fold r 0 (by have := hs.1; omega) hs.2 (by omega) (by have := hs.1; omega)
  have h2 : sizeW r = (sumT (cesL r) : Int) := by unfold sizeW; rw [h1]; omega
  have h3 := (gP_small (p := (r, 0)) hs).2.1
  exact ⟨h2, by have : sizeW r ≤ 2048 := h3; omega⟩
theorem btText_append : ∀ (a b : List (List Ce)), btText (a ++ b) = btText a + btText b
  | [], b => by simp [btText]
  | x :: r, b => by rw [List.cons_append, btText, btText_append r b, btText]; omega
theorem text_next {ps : List PairB} {k : Nat} (h : k < ps.length) : btText (rowsL (ps.take (k + 1))) = btText (rowsL (ps.take k)) + sumT (cesL (ps.getD k default).1) := by
  rw [take_succD h default]
  unfold rowsL
  rw [List.map_append, btText_append]
  simp [btText]

/-- A set written. -/
theorem write_set {v1 : Value} {cs : List ColB} {w : World} (K : BatK v1 cs w) {ps : List PairB} (hP : PSO ps) (h0 : chkZ cs ps = 0) {L : List UInt8} (hL : L = btWr (kindsL cs) (psL ps)) (wz : World) (v : Value) (hb : Below w.heap.size w wz) (hr : RdP wz v ps) :
    Calls Tryz.prog 10 #[v1, v] wz fun e w' => ∃ b, e = .returned (.tuple #[b, .int .i64 0]) ∧ Rd w' b L ∧ Below wz.heap.size wz w' := by
  refine (K.write wz v ps hb hr hP).mono ?_
  rintro e w' ⟨b, rfl, hO, hb'⟩
  rw [h0, if_pos rfl, ← hL] at hO
  rw [h0]
  have hs := wr_small hP h0
  rw [← hL] at hs
  exact ⟨b, rfl, hO.rd (by omega), hb'⟩
/-- A set read of its bytes. -/
theorem read_back {v1 : Value} {cs : List ColB} {w : World} (K : BatK v1 cs w) {ps : List PairB} (hP : PSO ps) (h0 : chkZ cs ps = 0) {L : List UInt8} (hL : L = btWr (kindsL cs) (psL ps)) (wz : World) (u : Value) (hb : Below w.heap.size w wz) (hu : Rd wz u L) :
    Calls Tryz.prog 14 #[u, v1] wz fun e w' => ∃ tv, e = .returned (.tuple #[tv, .int .i64 (L.length : Int), .int .i64 0]) ∧ RdP w' tv ps ∧ Below wz.heap.size wz w' := by
  refine (K.read wz u L hb hu).mono ?_
  rintro e w' ⟨hb', tv, qs, rfl, hN, hQ, hqs⟩
  have hp := bat_put hP h0 (l := L) (m := []) (k := 0) (by rw [List.drop_zero, List.append_nil]; exact hL)
  obtain ⟨z1, z2⟩ := batE_of (R := batS cs L 0) (l := L) (by rw [hp]) (by rw [hp]; dsimp only; rw [← hL]; omega)
  rw [z2, hp] at hqs
  have e : qs = ps := psL_inj hqs
  subst e
  refine ⟨tv, ?_, hN.rd, hb'⟩
  rw [z1, hp]
  dsimp only
  rw [← hL, Nat.zero_add]; rfl
theorem read_less {v1 : Value} {cs : List ColB} {w : World} (K : BatK v1 cs w) {ps : List PairB} (hP : PSO ps) (h0 : chkZ cs ps = 0) {L : List UInt8} (hL : L = btWr (kindsL cs) (psL ps)) {n : Nat} (hn : n < L.length) (wz : World) (u : Value) (hb : Below w.heap.size w wz) (hu : Rd wz u (L.take n)) :
    Calls Tryz.prog 14 #[u, v1] wz fun e w' => ∃ tv kk, e = .returned (.tuple #[tv, .int .i64 kk, .int .i64 5]) ∧ Below wz.heap.size wz w' := by
  refine (K.read wz u _ hb hu).mono ?_
  rintro e w' ⟨hb', tv, qs, rfl, hN, hQ, hqs⟩
  have h5 := bat_less hP h0 (l := L.take n) (k := 0) (e := n) (by rw [List.drop_zero, hL]) (by rw [← hL]; exact hn)
  have he : batE (batS cs (L.take n) 0) (L.take n) = 5 := by unfold batE toldM; rw [h5]; rfl
  rw [he]
  exact ⟨tv, _, rfl, hb'⟩
theorem read_long {v1 : Value} {cs : List ColB} {w : World} (K : BatK v1 cs w) {ps : List PairB} (hP : PSO ps) (h0 : chkZ cs ps = 0) {L : List UInt8} (hL : L = btWr (kindsL cs) (psL ps)) (x : UInt8) (wz : World) (u : Value) (hb : Below w.heap.size w wz) (hu : Rd wz u (L ++ [x])) :
    Calls Tryz.prog 14 #[u, v1] wz fun e w' => ∃ tv, e = .returned (.tuple #[tv, .int .i64 (L.length : Int), .int .i64 7]) ∧ Below wz.heap.size wz w' := by
  refine (K.read wz u _ hb hu).mono ?_
  rintro e w' ⟨hb', tv, qs, rfl, hN, hQ, hqs⟩
  have hp := bat_put hP h0 (l := L ++ [x]) (m := [x]) (k := 0) (by rw [List.drop_zero, hL])
  rw [← hL, Nat.zero_add] at hp
  have he : batE (batS cs (L ++ [x]) 0) (L ++ [x]) = 7 := by
    unfold batE toldM
    rw [hp]
    dsimp only
    rw [if_pos rfl, if_pos (by rw [List.length_append, List.length_singleton]; omega)]
  rw [he, hp]
  exact ⟨tv, rfl, hb'⟩

end Go.Proofs.YtedfcnlhdicipaaGreatDoor
