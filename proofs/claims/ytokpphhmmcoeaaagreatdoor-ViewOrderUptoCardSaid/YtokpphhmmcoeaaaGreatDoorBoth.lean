/-
  Two slices gone through two by two by a range-function: what each instance promises to whoever loops over it.
-/
import Derived.Test.YtokpphhmmcoeaaaGreatDoorGBaseB
import Derived.Test.YtokpphhmmcoeaaaGreatDoorGBaseA
import Derived.RangeFuncNested
import Derived.RangeFuncBound
import Derived.RangeFuncCalls
import Derived.RangeFuncLeaves
import Derived.Shelf.Abstract
import Derived.Shelf.RegionOpen
import Derived.WalkKit
import Derived.OwnWalkIn
import Derived.TacticsInMore
import Derived.LoopNIn
import Derived.LoopIn
import Derived.Stop.RegionWithIn
set_option linter.unusedVariables false
set_option linter.unusedSimpArgs false
set_option maxRecDepth 1000000
namespace Go.Proofs.YtokpphhmmcoeaaaGreatDoor
open Go.RowKit Go.Shelf

attribute [local go_sem] Oper.semAt_some

/-- Blocks that a round may turn: the loop's own, but the two that hold the slices. -/
def Mine (n0 b1 b2 : Nat) (j : Nat) : Prop := n0 ≤ j ∧ j ≠ b1 ∧ j ≠ b2
theorem mine_below {n0 b1 b2 : Nat} {W W' : World} (h : Only (Mine n0 b1 b2) W W') (hn : n0 ≤ W.heap.size) : Below n0 W W' := h.toBelow (fun j hj => hj.1) hn
theorem only_t {S : Nat → Prop} {A B C : World} (h : Only S A B) (k : Only S B C) : Only S A C := h.trans k
theorem only_b {n0 b1 b2 : Nat} {w : World} (hn : n0 ≤ w.heap.size) (h1 : b1 < w.heap.size) (h2 : b2 < w.heap.size) (W : World) (l : Nat) (o o' : Obj) (hl : w.heap.size ≤ l) (h : W.heap[l]? = some o) (_ : o.isCells = false) (_ : o.isWalk = false) : Only (Mine n0 b1 b2) W (W.putObj l o') :=
  (Only.refl _ W).grown (grownBy_putObj' W l o') ⟨by omega, by omega, by omega⟩
theorem abides_drew {β : Type} {B : Nat} {J : β → World → Prop} (h : AbidesFrom B J) {s : β} {W : World} (hs : J s W) : J s W.drew :=
  h s W W.drew none hs ⟨rfl, rfl, rfl, Nat.le_refl _, fun _ _ _ => rfl⟩ (fun r e => by cases e)
theorem zip_get {α β : Type} [Inhabited α] [Inhabited β] (xs : List α) (ys : List β) (h : xs.length = ys.length) (k : Nat) (hk : k < xs.length) : (xs.zip ys).take (k + 1) = (xs.zip ys).take k ++ [(xs.getD k default, ys.getD k default)] := by
  have hz : k < (xs.zip ys).length := by rw [List.length_zip]; omega
  rw [List.take_succ_eq_append_getElem hz]
  simp [List.getD, hk, show k < ys.length from by omega]
theorem zip_mem {α β : Type} [Inhabited α] [Inhabited β] (xs : List α) (ys : List β) (h : xs.length = ys.length) (k : Nat) (hk : k < xs.length) : (xs.getD k default, ys.getD k default) ∈ xs.zip ys := by
  have hz : k < (xs.zip ys).length := by rw [List.length_zip]; omega
  have e : (xs.getD k default, ys.getD k default) = (xs.zip ys)[k] := by simp [List.getD, hk, show k < ys.length from by omega]
  rw [e]; exact List.getElem_mem _

/-- An iterator's value goes through just these, in their order; or through the first ones of them, where a round says that it is enough. -/
def Through {α : Type} (n : Nat) (P : Program) (gf : Nat) (lb : Array Value) (encs : α → Array Value) (zs : List α) (Kp : World → World → Prop) (w : World) : Prop :=
  SeqStopsK (α := { x // x ∈ zs }) Fence.wide n P gf lb (fun x => encs x.1) Kp (fun ys => ys.map (·.1) = zs) (fun pre => ∃ k, k ≤ zs.length ∧ pre.map (·.1) = zs.take k) zs.length w

theorem ownPost_map {α β : Type} {B : Nat} {Kp : World → World → Prop} {I : List β → World → Prop} {Ix : Code → List β → World → Prop} (f : α → β) {xs : List α} {W : World} : ∀ (e : Exit) (a : Act) (W' : World),
    ownPostG B Kp I Ix (xs.map f) W e a W' → ownPostG B Kp (fun p => I (p.map f)) (fun c p => Ix c (p.map f)) xs W e a W' := by
  intro e a W' h
  cases e <;> exact h

/-- A loop over such a value. -/
theorem range_through {α : Type} {n : Nat} {P : Program} {g : Operand} {ps : Array Tmp} {assign body : Code} {Q : Exit → Act → World → Prop} {a : Act} {w : World}
    (h1 : 1 ≤ n) {gf : Nat} {lb : Array Value} (hg : a.eval g = .func (.func gf) #[] lb) (eg : ∀ args w, (callFunc gf args).run P w = .ok (.enter gf args) w)
    {encs : α → Array Value} {zs : List α} {Kp : World → World → Prop} (hseq : Through (n - 1) P gf lb encs zs Kp w)
    (hKt : ∀ {A B C : World}, Kp A B → Kp B C → Kp A C) (hKb : ∀ (W : World) (l : Nat) (o o' : Obj), w.heap.size ≤ l → W.heap[l]? = some o → o.isCells = false → o.isWalk = false → Kp W (W.putObj l o')) (hps : ∀ x, (encs x).size = ps.size)
    (I : List α → World → Prop) (Ix : Code → List α → World → Prop) (hI : OwnFrom w.heap.size I) (hIx : ∀ c, OwnFrom w.heap.size (Ix c)) (h0 : I [] w) (Ax : α → Act → World → Prop) (hAx : ∀ x a', OwnFrom w.heap.size (fun (_ : Unit) W => Ax x a' W))
    (hassign : ∀ (l : Nat) (pre : List α) (x : α) (W : World) (K : Act → World → Prop), I pre W → x ∈ zs → (∀ a' W', KeepsFrom w.heap.size W W' → Kp W W' → I pre W' → Ax x a' W' → K a' W') →
      assign.wpIn (Fence.wide.inRound l) (n - 1 - 1) P (Exit.then K (fun _ _ _ => False)) { tmps := (ps.zip (encs x)).foldl (fun t (p, v) => t.setIfInBounds p v) a.tmps, defers := [] } W)
    (hbody : ∀ (l : Nat) (pre : List α) (x : α) (a' : Act) (W : World), I pre W → Ax x a' W → pre.length < zs.length → x ∈ zs → body.wpIn (Fence.wide.inRound l) (n - 1 - 1) P (ownPostG w.heap.size Kp I Ix (pre ++ [x]) W) a' W)
    (hdone : ∀ (D : Nat) (W : World), w.heap.size ≤ D → I zs W → W.heap[D]? = some (.deferred (some [])) → Q .normal { a with defers := { target := .collected D, args := #[] } :: a.defers } W)
    (hstop : ∀ (D : Nat) (c : Code) (k : Nat) (W : World), w.heap.size ≤ D → k ≤ zs.length → Ix c (zs.take k) W → W.heap[D]? = some (.deferred (some [])) → c.wpIn Fence.wide n P Q { a with defers := { target := .collected D, args := #[] } :: a.defers } W) :
    (Code.rangeFunc g ps assign body).wpIn Fence.wide n P Q a w := by
  refine wpIn_rangeFunc_ownH (α := { x // x ∈ zs }) (F := Fence.wide) rfl h1 hg trivial eg hseq (fun h k => hKt h k) hKb (Below.refl _ _) (fun x => hps x.1)
    (fun pre W => I (pre.map (·.1)) W) (fun c pre W => Ix c (pre.map (·.1)) W) (fun s => hI (s.map (·.1))) (fun c s => hIx c (s.map (·.1))) h0 (fun x a' W => Ax x.1 a' W) (fun x a' => hAx x.1 a') ?_ ?_ ?_ ?_
  · intro l pre x W K hi hK
    exact hassign l _ x.1 W K hi x.2 hK
  · intro l pre x a' W _ _ hi hx hlt
    have := hbody l (pre.map (·.1)) x.1 a' W hi hx (by rw [List.length_map]; exact hlt) x.2
    refine wpIn_mono this ?_
    intro e a3 W3 hp
    refine ownPost_map (fun y : { x // x ∈ zs } => y.1) e a3 W3 ?_
    rw [List.map_append]; exact hp
  · intro D xs W hD hS hi hK
    refine hdone D W hD ?_ hK
    rw [← hS]; exact hi
  · intro D c pre W hD ⟨k, hk, hp⟩ hi hK
    refine hstop D c k W hD hk ?_ hK
    rw [← hp]; exact hi

/-- The two values of a round. -/
def encCC (x : ColB × CellB) : Array Value := #[.agg #[.string x.1.1, .int .i64 x.1.2], .agg #[.int .u64 (x.2.1 : Int), .string x.2.2]]

set_option maxHeartbeats 4000000 in
theorem bothCC_in (n : Nat) (hn : 1 ≤ n) (l b1 b2 : Nat) (v1 v2 : Value) (cs : List ColB) (rs : List CellB) (hlen : cs.length = rs.length) (w0 : World) (J Jx : List (ColB × CellB) → World → Prop) (B : Nat) (hJ : AbidesFrom B J)
    (h1 : ∀ W, Below w0.heap.size w0 W → RdC W v1 cs) (h2 : ∀ W, Below w0.heap.size w0 W → RdE W v2 rs)
    (hY : ∀ pre x W, J pre W → pre.length < cs.length → x ∈ cs.zip rs → YieldAt Fence.wide (n - 1) Tryz.prog l (encCC x) W fun e W' =>
      (e = .returned (.bool true) ∧ J (pre ++ [x]) W' ∧ Only (Mine w0.heap.size b1 b2) W W') ∨ (e = .returned (.bool false) ∧ Jx (pre ++ [x]) W'))
    (W : World) (hW : Below w0.heap.size w0 W) (hc1 : W.cell? ⟨b1, 0, none⟩ = some v1) (hc2 : W.cell? ⟨b2, 0, none⟩ = some v2) (h0 : J [] W) :
    CallsIn Fence.wide n Tryz.prog 108 #[.func (.yield l) #[] #[], .pointer (some ⟨b1, 0, none⟩), .pointer (some ⟨b2, 0, none⟩)] W fun e W' => (∃ v, e = .returned v) ∧
      ((∃ ys, ys = cs.zip rs ∧ J ys W') ∨ (∃ pre, (∃ k, k ≤ cs.length ∧ pre = (cs.zip rs).take k) ∧ Jx pre W')) := by
  have hws := hW.size
  have hl1 := (h1 W hW).len
  have hsm := (h1 W hW).small
  obtain ⟨m, hm⟩ : ∃ m, m = cs.length := ⟨_, rfl⟩
  rw [← hm] at hl1 hsm
  have HM := Lib.hid hm
  have HB1 : b1 < W.heap.size := World.block_lt_of_cell? W _ hc1
  have HB2 : b2 < W.heap.size := World.block_lt_of_cell? W _ hc2
  have HW := Lib.hid hW
  have HC1 := Lib.hid hc1
  have HC2 := Lib.hid hc2
  have H1 := Lib.hid h1
  have H2 := Lib.hid h2
  have HJ := Lib.hid hJ
  have HY := Lib.hid hY
  have HL := Lib.hid hlen
  have HO := Lib.hid (Only.refl (Mine w0.heap.size b1 b2) W)
  have H0 := Lib.hid (show J ((cs.zip rs).take 0) W from h0)
  clear hm hW hc2 h1 h2 hJ hY hlen h0
  refine callsIn_of_wp Tryz.func108 rfl trivial ?_ rfl
  simp only [Tryz.ntmps108, List.size_toArray, List.length_cons, List.length_nil, Nat.reduceAdd, Nat.reduceSub, Array.replicate_succ, Array.replicate_zero, List.push_toArray, List.append_toArray, List.nil_append, List.cons_append]
  gi_wp2
  gi_loopw [7] (fun i wr => ∃ k : Nat, k ≤ m ∧ i = .int .i64 k ∧ Hid (J ((cs.zip rs).take k) wr) ∧ Hid (Only (Mine w0.heap.size b1 b2) W wr))
    (fun i _ => m - (intOf i).toNat)
  case atStart => exact ⟨0, Nat.zero_le _, rfl, H0, HO⟩
  case round =>
    clear H0 HO hc1
    obtain ⟨k, hk, rfl, HJs, HO⟩ := hrel
    by_cases hlt : k < m
    · have hB : Below w0.heap.size w0 wr := HW.out.trans (mine_below HO.out hws)
      have k1 : k < cs.length := by rw [← HM.out]; exact hlt
      have k2 : k < rs.length := by rw [← HL.out]; exact k1
      obtain ⟨ba, oa, hia, hca, _⟩ := (H1.out wr hB).get k1
      obtain ⟨bb, ob, hib, hcb, _⟩ := (H2.out wr hB).get k2
      obtain ⟨ca0, ca1⟩ := hca _ (H1.out wr hB)
      obtain ⟨cb0, cb1⟩ := hcb _ (H2.out wr hB)
      have q1 : wr.cell? ⟨b1, 0, none⟩ = some v1 := (World.cell?_of_block (HO.out.block b1 HB1 (fun h => h.2.1 rfl))).trans HC1.out
      have q2 : wr.cell? ⟨b2, 0, none⟩ = some v2 := (World.cell?_of_block (HO.out.block b2 HB2 (fun h => h.2.2 rfl))).trans HC2.out
      have HZ := Lib.hid (zip_get cs rs HL.out k k1)
      have hyy := HY.out _ (cs.getD k default, rs.getD k default) wr.drew (abides_drew HJ.out HJs.out) (by rw [List.length_take, List.length_zip]; omega) (zip_mem cs rs HL.out k k1)
      rcases hga : cs.getD k default with ⟨xa, ya⟩
      rcases hgb : rs.getD k default with ⟨xb, yb⟩
      rw [hga] at ca0 ca1 HZ hyy
      rw [hgb] at cb0 cb1 HZ hyy
      clear hga hgb
      obtain ⟨fn, tmps, assign, body, hy, hR⟩ := hyy
      unfold encCC at hy
      dsimp only at hy ca0 ca1 cb0 cb1
      have HR := Lib.hid (hR.mono (R' := fun e W' => ∃ b, e = .returned (.bool b) ∧ Hid ((b = true ∧ J ((cs.zip rs).take (k + 1)) W' ∧ Only (Mine w0.heap.size b1 b2) wr.drew W') ∨ (b = false ∧ Jx ((cs.zip rs).take (k + 1)) W'))) (by
        rintro e W' (⟨rfl, h5, h6⟩ | ⟨rfl, h5⟩)
        · exact ⟨true, rfl, Lib.hid (.inl ⟨rfl, by rw [HZ.out]; exact h5, h6⟩)⟩
        · exact ⟨false, rfl, Lib.hid (.inr ⟨rfl, by rw [HZ.out]; exact h5⟩)⟩))
      clear hR hca hcb k1 k2 hB HJs
      have hmx : Tryz.prog.follows .mixedOrders = true := by kernel_rfl
      gi_wp2
      gi_region_with ((refine HR.out.mono ?_; rintro e W3 ⟨b, rfl, hres⟩))
      all_goals
        clear HR ca0 ca1 cb0 cb1 q1 q2 hia hib hy hmx
        rcases hres.out with ⟨rfl, hJ3, hO3⟩ | ⟨rfl, hJ3⟩
        · have HJ3 := Lib.hid hJ3
          have HO3 := Lib.hid (HO.out.drew.trans hO3)
          clear hres hJ3 hO3
          gi_wp2
          go_roundw
          case rel => exact ⟨k + 1, by omega, by go_num, HJ3, HO3⟩
          case measure => simp [intOf]; omega
        · have HJ3 := Lib.hid hJ3
          clear hres hJ3
          gi_wp2
          refine bodyPost_ret (results_none rfl _ _ _) rfl ?_
          exact ⟨⟨_, rfl⟩, .inr ⟨_, ⟨k + 1, by rw [← HM.out]; omega, rfl⟩, HJ3.out⟩⟩
    · obtain rfl : k = m := by omega
      have HJe := Lib.hid (show J (cs.zip rs) wr from by
        have := HJs.out
        rwa [List.take_of_length_le (by rw [List.length_zip, ← HL.out, ← HM.out]; omega)] at this)
      clear hlt
      gi_wp2
      go_end0
      exact ⟨⟨_, rfl⟩, .inl ⟨_, rfl, HJe.out⟩⟩

/-- The instance's value goes through the two slices. -/
theorem bothCC_through (n : Nat) (hn : 1 ≤ n) (b1 b2 : Nat) (v1 v2 : Value) (cs : List ColB) (rs : List CellB) (hlen : cs.length = rs.length) (w0 : World)
    (h1 : ∀ W, Below w0.heap.size w0 W → RdC W v1 cs) (h2 : ∀ W, Below w0.heap.size w0 W → RdE W v2 rs)
    (w : World) (hw : Below w0.heap.size w0 w) (hc1 : w.cell? ⟨b1, 0, none⟩ = some v1) (hc2 : w.cell? ⟨b2, 0, none⟩ = some v2) :
    Through n Tryz.prog 108 #[.pointer (some ⟨b1, 0, none⟩), .pointer (some ⟨b2, 0, none⟩)] encCC (cs.zip rs) (Only (Mine w0.heap.size b1 b2)) w := by
  intro l J Jx W hW hJ hJx hY h0
  have hb1 : b1 < w.heap.size := World.block_lt_of_cell? w _ hc1
  have hb2 : b2 < w.heap.size := World.block_lt_of_cell? w _ hc2
  have hz : (cs.zip rs).length = cs.length := by rw [List.length_zip]; omega
  refine (bothCC_in n hn l b1 b2 v1 v2 cs rs hlen w0 (fun pre W => ∃ p : List { x // x ∈ cs.zip rs }, p.map (·.1) = pre ∧ J p W) (fun pre W => ∃ p : List { x // x ∈ cs.zip rs }, p.map (·.1) = pre ∧ Jx p W) W.heap.size
    ?_ h1 h2 ?_ W (hw.trans (hW.mono hw.size)) ((hW.cell (p := ⟨b1, 0, none⟩) hb1).trans hc1) ((hW.cell (p := ⟨b2, 0, none⟩) hb2).trans hc2) ⟨[], rfl, h0⟩).mono ?_
  · rintro s A B row ⟨p, hp, hj⟩ hg hr
    exact ⟨p, hp, hJ p A B row hj hg hr⟩
  · rintro pre x W1 ⟨p, hp, hj⟩ hlt hx
    obtain ⟨fn, tmps, assign, body, hy, hR⟩ := hY p ⟨x, hx⟩ W1 hj (by
      have h9 := congrArg List.length hp
      rw [List.length_map] at h9
      omega)
    refine ⟨fn, tmps, assign, body, hy, hR.mono ?_⟩
    rintro e W' (⟨he, h5, h6⟩ | ⟨he, h5⟩)
    · exact .inl ⟨he, ⟨p ++ [⟨x, hx⟩], by rw [List.map_append, hp]; rfl, h5⟩, h6⟩
    · exact .inr ⟨he, ⟨p ++ [⟨x, hx⟩], by rw [List.map_append, hp]; rfl, h5⟩⟩
  · rintro e W' ⟨he, ⟨ys, rfl, p, hp, hj⟩ | ⟨pre, ⟨k, hk, rfl⟩, p, hp, hj⟩⟩
    · exact ⟨he, .inl ⟨p, hp, hj⟩⟩
    · exact ⟨he, .inr ⟨p, ⟨k, by omega, hp⟩, hj⟩⟩

set_option maxHeartbeats 1000000 in
theorem bothCC_make (v1 v2 : Value) (cs : List ColB) (rs : List CellB) (w : World) (h1 : RdC w v1 cs) (h2 : RdE w v2 rs) :
    Calls Tryz.prog 88 #[v1, v2] w fun e w' => e = .returned (.func (.func 108) #[] #[.pointer (some ⟨w.heap.size, 0, none⟩), .pointer (some ⟨w.heap.size + 1, 0, none⟩)]) ∧
      w' = (w.alloc (.cells #[v1] 22)).alloc (.cells #[v2] 73) := by
  obtain ⟨ao, cap, rfl, _⟩ := RdG.shape h1
  obtain ⟨ap, caq, rfl, _⟩ := RdG.shape h2
  generalize (cs.map colV).length = n1
  generalize (rs.map cellVs).length = n2
  clear h1 h2
  go_enter Tryz.func88, Tryz.ntmps88
  go_wp2
  go_ret
  exact ⟨rfl, rfl⟩

/-- The two values of a round. -/
def encEE (x : CellB × CellB) : Array Value := #[.agg #[.int .u64 (x.1.1 : Int), .string x.1.2], .agg #[.int .u64 (x.2.1 : Int), .string x.2.2]]

set_option maxHeartbeats 4000000 in
theorem bothEE_in (n : Nat) (hn : 1 ≤ n) (l b1 b2 : Nat) (v1 v2 : Value) (cs : List CellB) (rs : List CellB) (hlen : cs.length = rs.length) (w0 : World) (J Jx : List (CellB × CellB) → World → Prop) (B : Nat) (hJ : AbidesFrom B J)
    (h1 : ∀ W, Below w0.heap.size w0 W → RdE W v1 cs) (h2 : ∀ W, Below w0.heap.size w0 W → RdE W v2 rs)
    (hY : ∀ pre x W, J pre W → pre.length < cs.length → x ∈ cs.zip rs → YieldAt Fence.wide (n - 1) Tryz.prog l (encEE x) W fun e W' =>
      (e = .returned (.bool true) ∧ J (pre ++ [x]) W' ∧ Only (Mine w0.heap.size b1 b2) W W') ∨ (e = .returned (.bool false) ∧ Jx (pre ++ [x]) W'))
    (W : World) (hW : Below w0.heap.size w0 W) (hc1 : W.cell? ⟨b1, 0, none⟩ = some v1) (hc2 : W.cell? ⟨b2, 0, none⟩ = some v2) (h0 : J [] W) :
    CallsIn Fence.wide n Tryz.prog 90 #[.func (.yield l) #[] #[], .pointer (some ⟨b1, 0, none⟩), .pointer (some ⟨b2, 0, none⟩)] W fun e W' => (∃ v, e = .returned v) ∧
      ((∃ ys, ys = cs.zip rs ∧ J ys W') ∨ (∃ pre, (∃ k, k ≤ cs.length ∧ pre = (cs.zip rs).take k) ∧ Jx pre W')) := by
  have hws := hW.size
  have hl1 := (h1 W hW).len
  have hsm := (h1 W hW).small
  obtain ⟨m, hm⟩ : ∃ m, m = cs.length := ⟨_, rfl⟩
  rw [← hm] at hl1 hsm
  have HM := Lib.hid hm
  have HB1 : b1 < W.heap.size := World.block_lt_of_cell? W _ hc1
  have HB2 : b2 < W.heap.size := World.block_lt_of_cell? W _ hc2
  have HW := Lib.hid hW
  have HC1 := Lib.hid hc1
  have HC2 := Lib.hid hc2
  have H1 := Lib.hid h1
  have H2 := Lib.hid h2
  have HJ := Lib.hid hJ
  have HY := Lib.hid hY
  have HL := Lib.hid hlen
  have HO := Lib.hid (Only.refl (Mine w0.heap.size b1 b2) W)
  have H0 := Lib.hid (show J ((cs.zip rs).take 0) W from h0)
  clear hm hW hc2 h1 h2 hJ hY hlen h0
  refine callsIn_of_wp Tryz.func90 rfl trivial ?_ rfl
  simp only [Tryz.ntmps90, List.size_toArray, List.length_cons, List.length_nil, Nat.reduceAdd, Nat.reduceSub, Array.replicate_succ, Array.replicate_zero, List.push_toArray, List.append_toArray, List.nil_append, List.cons_append]
  gi_wp2
  gi_loopw [7] (fun i wr => ∃ k : Nat, k ≤ m ∧ i = .int .i64 k ∧ Hid (J ((cs.zip rs).take k) wr) ∧ Hid (Only (Mine w0.heap.size b1 b2) W wr))
    (fun i _ => m - (intOf i).toNat)
  case atStart => exact ⟨0, Nat.zero_le _, rfl, H0, HO⟩
  case round =>
    clear H0 HO hc1
    obtain ⟨k, hk, rfl, HJs, HO⟩ := hrel
    by_cases hlt : k < m
    · have hB : Below w0.heap.size w0 wr := HW.out.trans (mine_below HO.out hws)
      have k1 : k < cs.length := by rw [← HM.out]; exact hlt
      have k2 : k < rs.length := by rw [← HL.out]; exact k1
      obtain ⟨ba, oa, hia, hca, _⟩ := (H1.out wr hB).get k1
      obtain ⟨bb, ob, hib, hcb, _⟩ := (H2.out wr hB).get k2
      obtain ⟨ca0, ca1⟩ := hca _ (H1.out wr hB)
      obtain ⟨cb0, cb1⟩ := hcb _ (H2.out wr hB)
      have q1 : wr.cell? ⟨b1, 0, none⟩ = some v1 := (World.cell?_of_block (HO.out.block b1 HB1 (fun h => h.2.1 rfl))).trans HC1.out
      have q2 : wr.cell? ⟨b2, 0, none⟩ = some v2 := (World.cell?_of_block (HO.out.block b2 HB2 (fun h => h.2.2 rfl))).trans HC2.out
      have HZ := Lib.hid (zip_get cs rs HL.out k k1)
      have hyy := HY.out _ (cs.getD k default, rs.getD k default) wr.drew (abides_drew HJ.out HJs.out) (by rw [List.length_take, List.length_zip]; omega) (zip_mem cs rs HL.out k k1)
      rcases hga : cs.getD k default with ⟨xa, ya⟩
      rcases hgb : rs.getD k default with ⟨xb, yb⟩
      rw [hga] at ca0 ca1 HZ hyy
      rw [hgb] at cb0 cb1 HZ hyy
      clear hga hgb
      obtain ⟨fn, tmps, assign, body, hy, hR⟩ := hyy
      unfold encEE at hy
      dsimp only at hy ca0 ca1 cb0 cb1
      have HR := Lib.hid (hR.mono (R' := fun e W' => ∃ b, e = .returned (.bool b) ∧ Hid ((b = true ∧ J ((cs.zip rs).take (k + 1)) W' ∧ Only (Mine w0.heap.size b1 b2) wr.drew W') ∨ (b = false ∧ Jx ((cs.zip rs).take (k + 1)) W'))) (by
        rintro e W' (⟨rfl, h5, h6⟩ | ⟨rfl, h5⟩)
        · exact ⟨true, rfl, Lib.hid (.inl ⟨rfl, by rw [HZ.out]; exact h5, h6⟩)⟩
        · exact ⟨false, rfl, Lib.hid (.inr ⟨rfl, by rw [HZ.out]; exact h5⟩)⟩))
      clear hR hca hcb k1 k2 hB HJs
      have hmx : Tryz.prog.follows .mixedOrders = true := by kernel_rfl
      gi_wp2
      gi_region_with ((refine HR.out.mono ?_; rintro e W3 ⟨b, rfl, hres⟩))
      all_goals
        clear HR ca0 ca1 cb0 cb1 q1 q2 hia hib hy hmx
        rcases hres.out with ⟨rfl, hJ3, hO3⟩ | ⟨rfl, hJ3⟩
        · have HJ3 := Lib.hid hJ3
          have HO3 := Lib.hid (HO.out.drew.trans hO3)
          clear hres hJ3 hO3
          gi_wp2
          go_roundw
          case rel => exact ⟨k + 1, by omega, by go_num, HJ3, HO3⟩
          case measure => simp [intOf]; omega
        · have HJ3 := Lib.hid hJ3
          clear hres hJ3
          gi_wp2
          refine bodyPost_ret (results_none rfl _ _ _) rfl ?_
          exact ⟨⟨_, rfl⟩, .inr ⟨_, ⟨k + 1, by rw [← HM.out]; omega, rfl⟩, HJ3.out⟩⟩
    · obtain rfl : k = m := by omega
      have HJe := Lib.hid (show J (cs.zip rs) wr from by
        have := HJs.out
        rwa [List.take_of_length_le (by rw [List.length_zip, ← HL.out, ← HM.out]; omega)] at this)
      clear hlt
      gi_wp2
      go_end0
      exact ⟨⟨_, rfl⟩, .inl ⟨_, rfl, HJe.out⟩⟩

/-- The instance's value goes through the two slices. -/
theorem bothEE_through (n : Nat) (hn : 1 ≤ n) (b1 b2 : Nat) (v1 v2 : Value) (cs : List CellB) (rs : List CellB) (hlen : cs.length = rs.length) (w0 : World)
    (h1 : ∀ W, Below w0.heap.size w0 W → RdE W v1 cs) (h2 : ∀ W, Below w0.heap.size w0 W → RdE W v2 rs)
    (w : World) (hw : Below w0.heap.size w0 w) (hc1 : w.cell? ⟨b1, 0, none⟩ = some v1) (hc2 : w.cell? ⟨b2, 0, none⟩ = some v2) :
    Through n Tryz.prog 90 #[.pointer (some ⟨b1, 0, none⟩), .pointer (some ⟨b2, 0, none⟩)] encEE (cs.zip rs) (Only (Mine w0.heap.size b1 b2)) w := by
  intro l J Jx W hW hJ hJx hY h0
  have hb1 : b1 < w.heap.size := World.block_lt_of_cell? w _ hc1
  have hb2 : b2 < w.heap.size := World.block_lt_of_cell? w _ hc2
  have hz : (cs.zip rs).length = cs.length := by rw [List.length_zip]; omega
  refine (bothEE_in n hn l b1 b2 v1 v2 cs rs hlen w0 (fun pre W => ∃ p : List { x // x ∈ cs.zip rs }, p.map (·.1) = pre ∧ J p W) (fun pre W => ∃ p : List { x // x ∈ cs.zip rs }, p.map (·.1) = pre ∧ Jx p W) W.heap.size
    ?_ h1 h2 ?_ W (hw.trans (hW.mono hw.size)) ((hW.cell (p := ⟨b1, 0, none⟩) hb1).trans hc1) ((hW.cell (p := ⟨b2, 0, none⟩) hb2).trans hc2) ⟨[], rfl, h0⟩).mono ?_
  · rintro s A B row ⟨p, hp, hj⟩ hg hr
    exact ⟨p, hp, hJ p A B row hj hg hr⟩
  · rintro pre x W1 ⟨p, hp, hj⟩ hlt hx
    obtain ⟨fn, tmps, assign, body, hy, hR⟩ := hY p ⟨x, hx⟩ W1 hj (by
      have h9 := congrArg List.length hp
      rw [List.length_map] at h9
      omega)
    refine ⟨fn, tmps, assign, body, hy, hR.mono ?_⟩
    rintro e W' (⟨he, h5, h6⟩ | ⟨he, h5⟩)
    · exact .inl ⟨he, ⟨p ++ [⟨x, hx⟩], by rw [List.map_append, hp]; rfl, h5⟩, h6⟩
    · exact .inr ⟨he, ⟨p ++ [⟨x, hx⟩], by rw [List.map_append, hp]; rfl, h5⟩⟩
  · rintro e W' ⟨he, ⟨ys, rfl, p, hp, hj⟩ | ⟨pre, ⟨k, hk, rfl⟩, p, hp, hj⟩⟩
    · exact ⟨he, .inl ⟨p, hp, hj⟩⟩
    · exact ⟨he, .inr ⟨p, ⟨k, by omega, hp⟩, hj⟩⟩

set_option maxHeartbeats 1000000 in
theorem bothEE_make (v1 v2 : Value) (cs : List CellB) (rs : List CellB) (w : World) (h1 : RdE w v1 cs) (h2 : RdE w v2 rs) :
    Calls Tryz.prog 61 #[v1, v2] w fun e w' => e = .returned (.func (.func 90) #[] #[.pointer (some ⟨w.heap.size, 0, none⟩), .pointer (some ⟨w.heap.size + 1, 0, none⟩)]) ∧
      w' = (w.alloc (.cells #[v1] 73)).alloc (.cells #[v2] 73) := by
  obtain ⟨ao, cap, rfl, _⟩ := RdG.shape h1
  obtain ⟨ap, caq, rfl, _⟩ := RdG.shape h2
  generalize (cs.map cellVs).length = n1
  generalize (rs.map cellVs).length = n2
  clear h1 h2
  go_enter Tryz.func61, Tryz.ntmps61
  go_wp2
  go_ret
  exact ⟨rfl, rfl⟩

end Go.Proofs.YtokpphhmmcoeaaaGreatDoor
