/-
  The document's own answers for layer 9 (deckleref09): Take of what isn't Bool.
-/
import Derived.Test.YteiphdcgffapbaaGreatDoorColRefOne
import Derived.Test.YteiphdcgffapbaaGreatDoorGColTk
set_option linter.unusedVariables false
set_option linter.unusedSimpArgs false
set_option maxRecDepth 1000000
namespace Go.Proofs.YteiphdcgffapbaaGreatDoor
open Go.RowKit

/-- What is told of a Take. -/
def TakeR (w : World) (m : Nat) (v : Value) (l : List UInt8) (kind n : Int) (k : Nat) (e : Ending) (w' : World) : Prop :=
  ∃ tv, e = .returned tv ∧ w.grownBy w' (some m) ∧ Mdl w' m v l (rdK l kind n k).2.1 (rdK l kind n k).2.2 ∧ ∃ cs : List CellB, OwnE w' w.heap.size tv cs ∧ CES cs ∧ cs.length ≤ n.toNat ∧ ((rdK l kind n k).2.2 = 0 → cesL cs = (rdK l kind n k).1)

theorem fit_zero {kind : Int} (hk : 0 ≤ kind ∧ kind ≤ 5) : Fit kind (0, []) := by
  refine ⟨?_, by decide⟩
  by_cases ht : kind = 3 ∨ kind = 4
  · exact checkC_text ht (by simp) (fun _ => utf8_nil)
  · exact checkC_num hk ht (fun _ => by decide)
theorem lstB_snoc (cs : List CellB) (c : CellB) : lstB (cs ++ [c]) (cs.length + 1) = c := by
  unfold lstB
  rw [if_neg (by omega), Nat.add_sub_cancel]
  simp [List.getD]
theorem cesL_snoc (cs : List CellB) (c : CellB) : cesL (cs ++ [c]) = cesL cs ++ [ceL c] := by unfold cesL; simp

def lenV : Value → Nat
  | .slice _ n _ => n
  | _ => 0
theorem OwnE.lenV {w : World} {base : Nat} {v : Value} {cs : List CellB} (h : OwnE w base v cs) : lenV v = cs.length := by
  rcases h.1.2 with ⟨rfl, hn⟩ | ⟨g, cap, cur, rfl, _⟩
  · rw [List.length_map] at hn; exact hn.symm
  · show (cs.map cellVs).length = _
    rw [List.length_map]

set_option maxHeartbeats 16000000 in
theorem ref_TakeN (m : Nat) (v : Value) (l : List UInt8) (k : Nat) (w : World) (hM : Mdl w m v l k 0) (kind : Int) (hk : 0 ≤ kind ∧ kind ≤ 5) (h2 : kind ≠ 2) (n : Nat) (hn : n ≤ 1024) :
    Calls Tryz.prog 85 #[.pointer (some ⟨m, 0, none⟩), .int .i64 kind, .int .i64 (n : Int)] w (TakeR w m v l kind n k) := by
  have hml := hM.lt
  have d1 : decide (kind ≥ 0) = true := decide_eq_true hk.1
  have d2 : decide (kind ≤ 5) = true := decide_eq_true hk.2
  have d3 : decide ((n : Int) ≥ 0) = true := decide_eq_true (by omega)
  have d4 : decide ((n : Int) ≤ 1024) = true := decide_eq_true (by omega)
  have q2 : (kind == 2) = false := by rw [beq_eq_false_iff_ne]; exact h2
  have HRD := Lib.hid (show rdK l kind n k = rdN l kind n (0, []) [] k by
    unfold rdK; rw [if_neg (by omega), if_neg (by omega), if_neg h2, Int.toNat_natCast])
  have HK := Lib.hid hk
  have H2 := Lib.hid h2
  have HML := Lib.hid hml
  obtain ⟨R, hR⟩ : ∃ R, R = rdK l kind n k := ⟨_, rfl⟩
  have HRR := Lib.hid hR
  rw [← hR] at HRD
  have HVB0 := Lib.hid (fun q (hq : q < l.length) => hM.rd.block hq)
  have HM := Lib.hid hM
  clear hk h2 hM hR hml
  go_enter Tryz.func85, Tryz.ntmps85
  go_wp2_with fail
  refine (model_Must m v l k w HM.out true 10).mono ?_
  rintro e w1 ⟨rfl, hg1, hM1⟩
  go_wp2_with fail
  refine (model_Must m v l k w1 hM1 true 3).mono ?_
  rintro e w2 ⟨rfl, hg2, hM2⟩
  have HG2 := Lib.hid (hg1.trans hg2)
  have HM2 := Lib.hid (show Mdl w2 m v l k 0 from hM2)
  have hs2 : w.heap.size ≤ w2.heap.size := (hg1.trans hg2).size
  have HS2 := Lib.hid hs2
  clear hg1 hg2 hM1 hM2 hs2 HM
  have HB3 := Lib.hid (show Below w2.heap.size w2 (w2.alloc (.cells #[.int .u64 0, .string ⟨#[]⟩] 60)) from (Below.refl _ _).alloc (Nat.le_refl _) _)
  have HG3 := Lib.hid (HG2.out.trans (below_grown HB3.out (some m)))
  have HM3 := Lib.hid (HM2.out.later HB3.out (Nat.le_refl _))
  have HR3 := Lib.hid (show (w2.alloc (.cells #[.int .u64 0, .string ⟨#[]⟩] 60)).heap[w2.heap.size]? = some (.cells #[.int .u64 0, .string ⟨#[]⟩] 60 (0, 0)) from heap_alloc_new _ _)
  have HS3 := Lib.hid (show w.heap.size ≤ w2.heap.size ∧ w2.heap.size + 1 ≤ (w2.alloc (.cells #[.int .u64 0, .string ⟨#[]⟩] 60)).heap.size from ⟨HS2.out, by rw [World.size_alloc]; omega⟩)
  go_wp2
  generalize w2.alloc (.cells #[.int .u64 0, .string ⟨#[]⟩] 60) = w3 at *
  generalize w2.heap.size = gb at *
  have HVB := Lib.hid (show ∀ q, q < l.length → (adr v q).block < gb from fun q hq => by have := HVB0.out q hq; have := HS3.out; omega)
  clear HB3 HG2 HM2 HS2 HVB0
  go_loopw [7] (fun a wr => ∃ (cs : List CellB) (x k' : Nat), Hid (cs.length ≤ n) ∧ Hid (OwnE wr (gb + 1) a cs) ∧ Hid (CES cs) ∧ Hid (Mdl wr m v l k' x) ∧ Hid (w.grownBy wr (some m)) ∧ Hid (wr.heap[gb]? = some (.cells #[.int .u64 ((lstB cs cs.length).1 : Int), .string (lstB cs cs.length).2] 60 (0, 0))) ∧ Hid (gb + 1 ≤ wr.heap.size) ∧
    Hid (x = 0 → Fit kind (ceL (lstB cs cs.length)) ∧ R = rdN l kind (n - cs.length) (ceL (lstB cs cs.length)) (cesL cs) k') ∧ Hid (x ≠ 0 → R.2.1 = k' ∧ R.2.2 = x)) (fun a wr => n - lenV a)
  case atStart =>
    refine ⟨[], 0, k, Lib.hid (by simp), Lib.hid (OwnE.nil _ _), Lib.hid (fun c hc => absurd hc (by simp)), HM3, HG3, HR3, Lib.hid HS3.out.2, Lib.hid (fun _ => ⟨fit_zero HK.out, ?_⟩), Lib.hid (fun h => absurd rfl h)⟩
    rw [HRD.out]; rfl
  case round =>
    obtain ⟨cs, x, k', HL, HO, HC, HM, HG, HR, HS, HI, HJ⟩ := hrel
    clear HM3 HG3 HR3
    have hlen := (HO.out.rd (by have := HL.out; omega)).len
    have c2 := HM.out.cell2
    obtain ⟨j, hj⟩ : ∃ j, j = cs.length := ⟨_, rfl⟩
    rw [← hj] at hlen
    have HJ0 := Lib.hid hj
    have hjn : j ≤ n := by rw [hj]; exact HL.out
    clear hj
    by_cases hlt : j < n
    · by_cases hx : x = 0
      · subst hx
        have c2 : wr.cell? ⟨m, 2, none⟩ = some (.int .i64 0) := c2
        obtain ⟨i1, i2⟩ := HI.out rfl
        rcases hp : lstB cs cs.length with ⟨px, ps⟩
        rw [hp] at i1 i2 HR
        have b0 : wr.cell? ⟨gb, 0, none⟩ = some (.int .u64 (px : Int)) := by rw [cell_of_row _ _ _ _ _ _ HR.out]; rfl
        have b1 : wr.cell? ⟨gb, 1, none⟩ = some (.string ps) := by rw [cell_of_row _ _ _ _ _ _ HR.out]; rfl
        have ON := Lib.hid (ref_one m v l k' wr HM.out kind HK.out j (px, ps) i1 H2.out (by omega))
        unfold cellV at ON
        have HI2 := Lib.hid i2
        have HKL := Lib.hid HM.out.le
        clear hp i1 i2 HI HJ
        go_wp2_with fail
        refine ON.out.mono ?_
        rintro e w5 ⟨⟨cx, cs2⟩, rfl, hg5, hM5, hc1, hc2, hc3⟩
        unfold cellV
        dsimp only at hc1 hc2 hc3
        have hr5 := (hg5.block gb (by have := HS.out; omega) (by intro e; injection e with e; have := HML.out; have := HS3.out; omega)).trans HR.out
        have HO5 := Lib.hid (HO.out.grown hg5 (fun q hq => by have := (OwnE.lt HO.out hq).1; have := HML.out; have := HS3.out; intro e; injection e with e; omega))
        have HG5 := Lib.hid (HG.out.trans hg5)
        have s0 : w5.cell? ⟨gb, 0, none⟩ = some (.int .u64 (px : Int)) := by rw [cell_of_row _ _ _ _ _ _ hr5]; rfl
        have f0 : w5.frozen? ⟨gb, 0, none⟩ = false := frozen_of_row _ _ _ _ _ hr5
        have s1 : (w5.setCell ⟨gb, 0, none⟩ (.int .u64 (cx : Int))).cell? ⟨gb, 1, none⟩ = some (.string ps) := by rw [cell_of_row _ _ _ _ _ _ (block_setCell hr5 _)]; rfl
        have f1 : (w5.setCell ⟨gb, 0, none⟩ (.int .u64 (cx : Int))).frozen? ⟨gb, 1, none⟩ = false := frozen_of_row _ _ _ _ _ (block_setCell hr5 _)
        have hr6 : ((w5.setCell ⟨gb, 0, none⟩ (.int .u64 (cx : Int))).setCell ⟨gb, 1, none⟩ (.string cs2)).heap[gb]? = some (.cells #[.int .u64 (cx : Int), .string cs2] 60 (0, 0)) := block_setCell (block_setCell hr5 _) _
        have t0 : ((w5.setCell ⟨gb, 0, none⟩ (.int .u64 (cx : Int))).setCell ⟨gb, 1, none⟩ (.string cs2)).cell? ⟨gb, 0, none⟩ = some (.int .u64 (cx : Int)) := by rw [cell_of_row _ _ _ _ _ _ hr6]; rfl
        have t1 : ((w5.setCell ⟨gb, 0, none⟩ (.int .u64 (cx : Int))).setCell ⟨gb, 1, none⟩ (.string cs2)).cell? ⟨gb, 1, none⟩ = some (.string cs2) := by rw [cell_of_row _ _ _ _ _ _ hr6]; rfl
        have hgv : w5.grownBy ((w5.setCell ⟨gb, 0, none⟩ (.int .u64 (cx : Int))).setCell ⟨gb, 1, none⟩ (.string cs2)) (some gb) := grown_setCell (grown_setCell (World.grownBy.refl _ _) _) _
        have HS6 := Lib.hid (show gb + 1 ≤ ((w5.setCell ⟨gb, 0, none⟩ (.int .u64 (cx : Int))).setCell ⟨gb, 1, none⟩ (.string cs2)).heap.size by rw [World.size_setCell, World.size_setCell]; have := HS.out; have := hg5.size; omega)
        have HM6 := Lib.hid (hM5.same (hgv.block m hM5.lt (by intro e; injection e with e; have := HML.out; have := HS3.out; omega)) fun q hq => hgv.block _ (hM5.rd.block hq) (fun e => by injection e with e; have := HVB.out q hq; omega))
        have HG6 := Lib.hid (HG5.out.sets (g := gb) (by have := HS3.out; omega) 0 1 (.int .u64 (cx : Int)) (.string cs2))
        have HO6 := Lib.hid (HO5.out.grown hgv (fun q hq => by have := (OwnE.lt HO5.out hq).1; intro e; injection e with e; omega))
        have HR6 := Lib.hid hr6
        have HC5 := Lib.hid hc3
        have hc1' : cx < 18446744073709551616 := hc1
        have HCx := Lib.hid (show ceS (cx, cs2) from ⟨hc1, by dsimp only; omega⟩)
        clear hr5 hr6 hgv hg5 hM5 hc3 HO5 HG5 HR HM HG HS ON hc1 hc2 b0 b1 c2
        have HA := Lib.hid (show Below (gb + 1) (((w5.setCell ⟨gb, 0, none⟩ (.int .u64 (cx : Int))).setCell ⟨gb, 1, none⟩ (.string cs2)).alloc (.cells #[.int .u64 (cx : Int), .string cs2] 60)) (((w5.setCell ⟨gb, 0, none⟩ (.int .u64 (cx : Int))).setCell ⟨gb, 1, none⟩ (.string cs2)).alloc (.cells #[.int .u64 (cx : Int), .string cs2] 60)) from Below.refl _ _)
        have HB6 := Lib.hid (show Below (gb + 1) ((w5.setCell ⟨gb, 0, none⟩ (.int .u64 (cx : Int))).setCell ⟨gb, 1, none⟩ (.string cs2)) (((w5.setCell ⟨gb, 0, none⟩ (.int .u64 (cx : Int))).setCell ⟨gb, 1, none⟩ (.string cs2)).alloc (.cells #[.int .u64 (cx : Int), .string cs2] 60)) from (Below.refl _ _).alloc HS6.out _)
        go_wp2_with (with_reducible refine wplE_append (gb + 1) _ ?hs (HO6.out.alloc _) _ (cx, cs2) ?hx (one_cellv _ (cx, cs2)) ?hn ?hbase (gb + 1) (((w5.setCell ⟨gb, 0, none⟩ (.int .u64 (cx : Int))).setCell ⟨gb, 1, none⟩ (.string cs2)).alloc (.cells #[.int .u64 (cx : Int), .string cs2] 60)) HA.out (Nat.le_refl _) ?_)
        case hs => rfl
        case hx => show _ = Value.slice (some ⟨((w5.setCell ⟨gb, 0, none⟩ (.int .u64 (cx : Int))).setCell ⟨gb, 1, none⟩ (.string cs2)).heap.size, 0, none⟩) 1 1; rw [World.size_setCell, World.size_setCell]; rfl
        case hn => rw [← HJ0.out]; omega
        case hbase => rw [World.size_alloc]; have := HS6.out; omega
        intro v8 w8 hO8 hB8 hg8
        have hB9 := HB6.out.trans hB8
        have HO8 := Lib.hid hO8
        have HM8 := Lib.hid (HM6.out.same (hB9.block m (by have := HML.out; have := HS3.out; omega)) fun q hq => hB9.block _ (by have := HVB.out q hq; omega))
        have HG8 := Lib.hid (show w.grownBy w8 (some m) from ⟨hB9.os.trans HG6.out.os, hB9.tape.trans HG6.out.tape, hB9.output.trans HG6.out.output, Nat.le_trans HG6.out.size hB9.size, fun q h1 h2 => (hB9.block q (by have := HS3.out; omega)).trans (HG6.out.block q h1 h2)⟩)
        have HR8 := Lib.hid (show w8.heap[gb]? = some (.cells #[.int .u64 ((lstB (cs ++ [(cx, cs2)]) (cs ++ [(cx, cs2)]).length).1 : Int), .string (lstB (cs ++ [(cx, cs2)]) (cs ++ [(cx, cs2)]).length).2] 60 (0, 0)) from by
          rw [List.length_append, List.length_singleton, lstB_snoc]; exact (hB9.block gb (by omega)).trans HR6.out)
        have HS8 := Lib.hid (show gb + 1 ≤ w8.heap.size from Nat.le_trans HS6.out hB9.size)
        have HL8 := Lib.hid (show (cs ++ [(cx, cs2)]).length ≤ n by rw [List.length_append, List.length_singleton, ← HJ0.out]; omega)
        have HC8 := Lib.hid (show CES (cs ++ [(cx, cs2)]) from fun c hc => by
          rcases List.mem_append.1 hc with hc | hc
          · exact HC.out c hc
          · rw [List.mem_singleton.1 hc]; exact HCx.out)
        have hrd := HI2.out
        rw [show n - cs.length = (n - (cs ++ [(cx, cs2)]).length) + 1 from by rw [List.length_append, List.length_singleton, ← HJ0.out]; omega, rdN, cesL_length, ← HJ0.out] at hrd
        have HI8 := Lib.hid (show (rd1 l kind j (ceL (px, ps)) k').2.2 = 0 → Fit kind (ceL (lstB (cs ++ [(cx, cs2)]) (cs ++ [(cx, cs2)]).length)) ∧ R = rdN l kind (n - (cs ++ [(cx, cs2)]).length) (ceL (lstB (cs ++ [(cx, cs2)]) (cs ++ [(cx, cs2)]).length)) (cesL (cs ++ [(cx, cs2)])) (rd1 l kind j (ceL (px, ps)) k').2.1 from fun h => by
          have e := HC5.out h
          rw [if_neg (fun hh => hh h), ← e] at hrd
          rw [List.length_append, List.length_singleton, lstB_snoc, cesL_snoc]
          rw [List.length_append, List.length_singleton] at hrd
          refine ⟨?_, hrd⟩
          rw [e]
          exact (rd1_enc HKL.out HK.out H2.out h).2.2)
        have HJ8 := Lib.hid (show (rd1 l kind j (ceL (px, ps)) k').2.2 ≠ 0 → R.2.1 = (rd1 l kind j (ceL (px, ps)) k').2.1 ∧ R.2.2 = (rd1 l kind j (ceL (px, ps)) k').2.2 from fun h => by
          rw [if_pos h] at hrd
          rw [hrd]; exact ⟨rfl, rfl⟩)
        have HLv := Lib.hid (OwnE.lenV hO8)
        have HLu := Lib.hid (OwnE.lenV HO.out)
        clear hO8 hB8 hg8 hB9 hrd HA HB6 s0 s1 f0 f1 t0 t1 HO6 HM6 HG6 HR6 HS6
        go_wp2
        go_roundw
        case rel => exact ⟨cs ++ [(cx, cs2)], _, _, HL8, HO8, HC8, HM8, HG8, HR8, HS8, HI8, HJ8⟩
        case measure =>
          have h1 := HLv.out
          have h2 := HLu.out
          have h3 := HJ0.out
          rw [List.length_append, List.length_singleton] at h1
          omega
      · have hq : ((x : Int) == 0) = false := by rw [beq_eq_false_iff_ne]; omega
        have HX := Lib.hid hx
        obtain ⟨r1, r2⟩ := HJ.out hx
        have HF := Lib.hid (show TakeR w m v l kind n k (.returned u7) wr from ⟨u7, rfl, HG.out, by rw [← HRR.out, r1, r2]; exact HM.out, cs, OwnE.lower HO.out (by have := HS3.out; omega), HC.out, by rw [Int.toNat_natCast]; exact HL.out, fun h => by rw [← HRR.out, r2] at h; exact absurd h HX.out⟩)
        clear r1 r2 hx
        go_wp2
        go_ret
        exact HF.out
    · have hjl : cs.length = n := by rw [← HJ0.out]; omega
      have HF := Lib.hid (show TakeR w m v l kind n k (.returned u7) wr from by
        by_cases hx : x = 0
        · subst hx
          have e := (HI.out rfl).2
          rw [hjl, Nat.sub_self, rdN] at e
          refine ⟨u7, rfl, HG.out, by rw [← HRR.out, e]; exact HM.out, cs, OwnE.lower HO.out (by have := HS3.out; omega), HC.out, by rw [Int.toNat_natCast]; exact HL.out, fun _ => by rw [← HRR.out, e]⟩
        · obtain ⟨r1, r2⟩ := HJ.out hx
          exact ⟨u7, rfl, HG.out, by rw [← HRR.out, r1, r2]; exact HM.out, cs, OwnE.lower HO.out (by have := HS3.out; omega), HC.out, by rw [Int.toNat_natCast]; exact HL.out, fun h => by rw [← HRR.out, r2] at h; exact absurd h hx⟩)
      clear hjl
      go_wp2
      go_ret
      exact HF.out

end Go.Proofs.YteiphdcgffapbaaGreatDoor


/-
  The document's own answers for layer 9 (deckleref09): Take of Bools; of what may not be taken.
-/
namespace Go.Proofs.YteiphdcgffapbaaGreatDoor
open Go.RowKit

theorem bit_more (c m s : Nat) : ((c / 2 ^ m) % 2 ^ (s + 1) = 0) ↔ ((c / 2 ^ m) % 2 ^ s = 0 ∧ c / 2 ^ (m + s) % 2 = 0) := by
  have h1 : c / 2 ^ (m + s) = c / 2 ^ m / 2 ^ s := by rw [Nat.pow_add, Nat.div_div_eq_div_mul]
  rw [h1, Nat.mod_pow_succ]
  generalize c / 2 ^ m / 2 ^ s % 2 = b
  generalize c / 2 ^ m % 2 ^ s = a
  have hp := Nat.two_pow_pos s
  constructor
  · intro h
    have h2 : 2 ^ s * b = 0 := by omega
    refine ⟨by omega, ?_⟩
    rcases Nat.mul_eq_zero.1 h2 with h3 | h3
    · omega
    · exact h3
  · rintro ⟨h2, h3⟩
    rw [h2, h3]; simp

set_option maxHeartbeats 16000000 in
theorem ref_TakeB (m : Nat) (v : Value) (l : List UInt8) (k : Nat) (w : World) (hM : Mdl w m v l k 0) (n : Nat) (hn : n ≤ 1024) :
    Calls Tryz.prog 85 #[.pointer (some ⟨m, 0, none⟩), .int .i64 2, .int .i64 (n : Int)] w (TakeR w m v l 2 n k) := by
  have hml := hM.lt
  have d3 : decide ((n : Int) ≥ 0) = true := decide_eq_true (by omega)
  have d4 : decide ((n : Int) ≤ 1024) = true := decide_eq_true (by omega)
  have HRD := Lib.hid (show rdK l 2 n k = rdQ l ((n + 7) / 8) n [] k by
    unfold rdK; rw [if_neg (by omega), if_neg (by omega), if_pos rfl, Int.toNat_natCast])
  have HML := Lib.hid hml
  obtain ⟨R, hR⟩ : ∃ R, R = rdK l 2 n k := ⟨_, rfl⟩
  have HRR := Lib.hid hR
  rw [← hR] at HRD
  have HVB0 := Lib.hid (fun q (hq : q < l.length) => hM.rd.block hq)
  have HM := Lib.hid hM
  clear hM hR hml
  go_enter Tryz.func85, Tryz.ntmps85
  go_wp2_with fail
  refine (model_Must m v l k w HM.out true 10).mono ?_
  rintro e w1 ⟨rfl, hg1, hM1⟩
  go_wp2_with fail
  refine (model_Must m v l k w1 hM1 true 3).mono ?_
  rintro e w2 ⟨rfl, hg2, hM2⟩
  have HG2 := Lib.hid (hg1.trans hg2)
  have HM2 := Lib.hid (show Mdl w2 m v l k 0 from hM2)
  have HS2 := Lib.hid (hg1.trans hg2).size
  clear hg1 hg2 hM1 hM2 HM
  have HB3 := Lib.hid (show Below w2.heap.size w2 (w2.alloc (.cells #[.int .u64 0, .string ⟨#[]⟩] 60)) from (Below.refl _ _).alloc (Nat.le_refl _) _)
  have HG3 := Lib.hid (HG2.out.trans (below_grown HB3.out (some m)))
  have HM3 := Lib.hid (HM2.out.later HB3.out (Nat.le_refl _))
  have HS3 := Lib.hid (show w.heap.size ≤ w2.heap.size ∧ w2.heap.size + 1 ≤ (w2.alloc (.cells #[.int .u64 0, .string ⟨#[]⟩] 60)).heap.size from ⟨HS2.out, by rw [World.size_alloc]; omega⟩)
  go_wp2
  generalize w2.alloc (.cells #[.int .u64 0, .string ⟨#[]⟩] 60) = w3 at *
  generalize w2.heap.size = gb at *
  have HVB := Lib.hid (show ∀ q, q < l.length → (adr v q).block < gb from fun q hq => by have := HVB0.out q hq; have := HS3.out; omega)
  clear HB3 HG2 HM2 HS2 HVB0
  go_loopw [7] (fun a wr => ∃ (cs : List CellB) (x k' : Nat), Hid (cs.length ≤ n) ∧ Hid (OwnE wr (gb + 1) a cs) ∧ Hid (CES cs) ∧ Hid (Mdl wr m v l k' x) ∧ Hid (w.grownBy wr (some m)) ∧ Hid (gb + 1 ≤ wr.heap.size) ∧
    Hid (x = 0 → (cs.length % 8 = 0 ∨ cs.length = n) ∧ R = rdQ l ((n - cs.length + 7) / 8) (n - cs.length) (cesL cs) k') ∧ Hid (x ≠ 0 → R.2.1 = k' ∧ R.2.2 = x)) (fun a wr => n - lenV a)
  case atStart =>
    refine ⟨[], 0, k, Lib.hid (by simp), Lib.hid (OwnE.nil _ _), Lib.hid CES.nil, HM3, HG3, Lib.hid HS3.out.2, Lib.hid (fun _ => ⟨.inl rfl, ?_⟩), Lib.hid (fun h => absurd rfl h)⟩
    rw [HRD.out]; rfl
  case round =>
    obtain ⟨cs, x, k', HL, HO, HC, HM, HG, HS, HI, HJ⟩ := hrel
    clear HM3 HG3
    have hlen := (HO.out.rd (by have := HL.out; omega)).len
    have c2 := HM.out.cell2
    obtain ⟨j, hj⟩ : ∃ j, j = cs.length := ⟨_, rfl⟩
    rw [← hj] at hlen
    have HJ0 := Lib.hid hj
    have hjn : j ≤ n := by rw [hj]; exact HL.out
    clear hj
    by_cases hlt : j < n
    · by_cases hx : x = 0
      · subst hx
        have c2 : wr.cell? ⟨m, 2, none⟩ = some (.int .i64 0) := c2
        obtain ⟨i1, i2⟩ := HI.out rfl
        rw [← HJ0.out] at i1 i2
        have h8 : j % 8 = 0 := by omega
        have HJ8 := Lib.hid h8
        obtain ⟨M, hM⟩ : ∃ M : Nat, M = min 8 (n - j) := ⟨_, rfl⟩
        rw [show (n - j + 7) / 8 = (n - j - 1) / 8 + 1 from by omega, rdQ, ← hM] at i2
        have hm1 : M ≤ 8 := by omega
        have hm2 : j + M ≤ n := by omega
        have HM3 := Lib.hid (show (j + M) % 8 = 0 ∨ j + M = n by omega)
        have HM4 := Lib.hid (show (n - j - 1) / 8 = (n - (j + M) + 7) / 8 by omega)
        have HM5 := Lib.hid (show 0 < M ∧ (M < 8 → j + M = n) by omega)
        obtain ⟨B, hB⟩ : ∃ B : Nat × Nat × Nat, B = (if k' < l.length then ((l.getD k' 0).toNat, k' + 1, 0) else (0, k', 5)) := ⟨_, rfl⟩
        have CB := Lib.hid (show Calls Tryz.prog 112 #[.pointer (some ⟨m, 0, none⟩)] wr (Does wr m v l (.int .u8 (B.1 : Int)) B.2.1 B.2.2) from by
          have := mod_Byte m v l k' 0 wr HM.out
          simp only [if_true] at this
          rw [hB]
          by_cases h : k' < l.length
          · simp only [if_pos h] at this ⊢; exact this
          · simp only [if_neg h] at this ⊢; exact this)
        obtain ⟨c, k1, xB⟩ := B
        dsimp only at CB
        have hcl : c ≤ 255 := by
          by_cases h : k' < l.length
          · rw [if_pos h] at hB
            injection hB with e1 e2
            have := at8_hi l k'
            unfold at8 at this
            omega
          · rw [if_neg h] at hB
            injection hB with e1 e2
            omega
        have HFin := Lib.hid (show ∀ xF ct, xF = (if xB ≠ 0 then xB else if (c / 2 ^ M) % 2 ^ (8 - M) = 0 then 0 else 6) → (xB = 0 → cesL ct = cesL cs ++ bitCs (bitsN M c)) → (xF = 0 → R = rdQ l ((n - (j + M) + 7) / 8) (n - (j + M)) (cesL ct) k1) ∧ (xF ≠ 0 → R.2.1 = k1 ∧ R.2.2 = xF) from by
          intro xF ct hF hct
          by_cases h : k' < l.length
          · rw [if_pos h] at hB
            injection hB with e1 e2
            injection e2 with e2 e3
            subst e3
            have hct := hct rfl
            rw [if_neg (by simp)] at hF
            rw [if_neg (by omega), ← e1] at i2
            have hsm : c / 2 ^ M % 2 ^ (8 - M) = c / 2 ^ M := by
              apply Nat.mod_eq_of_lt
              rw [Nat.div_lt_iff_lt_mul (Nat.two_pow_pos _), ← Nat.pow_add, show 8 - M + M = 8 from by omega]
              omega
            rw [hsm] at hF
            by_cases h0 : c / 2 ^ M = 0
            · rw [if_pos h0] at hF
              rw [if_neg (fun h => h h0)] at i2
              refine ⟨fun _ => ?_, fun h => absurd hF h⟩
              rw [i2, hct, e2, HM4.out, show n - j - M = n - (j + M) from by omega]
            · rw [if_neg h0] at hF
              rw [if_pos h0] at i2
              refine ⟨fun h => by omega, fun _ => ?_⟩
              rw [i2, e2, hF]; exact ⟨rfl, rfl⟩
          · rw [if_neg h] at hB
            injection hB with e1 e2
            injection e2 with e2 e3
            subst e3
            rw [if_pos (by decide)] at hF
            rw [if_pos (by omega)] at i2
            refine ⟨fun h => by omega, fun _ => ?_⟩
            rw [i2, e2, hF]; exact ⟨rfl, rfl⟩)
        have HLu := Lib.hid (OwnE.lenV HO.out)
        clear hB i1 i2 HI HJ hM h8
        go_wp2_with fail
        refine CB.out.mono ?_
        rintro e w5 ⟨rfl, hg5, hM5⟩
        have HO5 := Lib.hid (HO.out.grown hg5 (fun q hq => by have := (OwnE.lt HO.out hq).1; have := HML.out; have := HS3.out; intro e; injection e with e; omega))
        have HG5 := Lib.hid (HG.out.trans hg5)
        have HS5 := Lib.hid (Nat.le_trans HS.out hg5.size)
        have HM5' := Lib.hid hM5
        clear hg5 hM5 CB HO HG HS HM c2 hlen
        go_wp2
        go_loopw [7, 9, 10] (fun b a i wi => ∃ (t d xi : Nat) (ct : List CellB), t ≤ 8 ∧ i = .int .i64 t ∧ a = .int .u8 (d : Int) ∧ d ≤ 255 ∧ Hid (d = c / 2 ^ t) ∧ Hid (ct.length = j + min t M) ∧ Hid (xB = 0 → cesL ct = cesL cs ++ bitCs (bitsN (min t M) c)) ∧ Hid (OwnE wi (gb + 1) b ct) ∧ Hid (CES ct) ∧ Hid (Mdl wi m v l k1 xi) ∧ Hid (w.grownBy wi (some m)) ∧ Hid (gb + 1 ≤ wi.heap.size) ∧ Hid (xi = (if xB ≠ 0 then xB else if (c / 2 ^ M) % 2 ^ (t - M) = 0 then 0 else 6))) (fun _ _ i _ => 8 - (intOf i).toNat)
        case atStart =>
          refine ⟨0, c, xB, cs, by omega, rfl, rfl, hcl, Lib.hid (by simp), Lib.hid (by rw [← HJ0.out]; omega), Lib.hid (fun _ => by simp [bitsN, bitCs]), HO5, HC, HM5', HG5, HS5, Lib.hid ?_⟩
          split
          · rfl
          · rw [Nat.zero_sub, Nat.pow_zero, Nat.mod_one, if_pos rfl]; omega
        case round =>
          clear HO5 HM5' HG5 HS5
          obtain ⟨t, d, xi, ct, ht, rfl, rfl, hd, HD, HLt, HCt, HO, HCE, HM, HG, HS, HX⟩ := hrel
          have hct9 := HLt.out
          have hlen := (HO.out.rd (by omega)).len
          have hde : Value.int .u8 ((d : Int) / 2) = .int .u8 ((d / 2 : Nat) : Int) := by rw [show ((d / 2 : Nat) : Int) = (d : Int) / 2 from by omega]
          have HDe := Lib.hid hde
          have HD8 := Lib.hid (show d / 2 = c / 2 ^ (t + 1) from by rw [HD.out, Nat.pow_succ, Nat.div_div_eq_div_mul])
          clear hde
          by_cases htl : t < 8
          · have d2 : decide ((t : Int) < 8) = true := decide_eq_true (by omega)
            by_cases htM : t < M
            · have e1 : ct.length = j + t := by omega
              rw [e1] at hlen
              have d5 : decide (((j + t : Nat) : Int) < (n : Int)) = true := decide_eq_true (by omega)
              obtain ⟨jt, hjt⟩ : ∃ jt, jt = j + t := ⟨_, rfl⟩
              rw [← hjt] at hlen d5
              have d6 : decide (jt < n) = true := decide_eq_true (by omega)
              have d7 : jt < n := by omega
              obtain ⟨q, hq⟩ : ∃ q : Nat, q = d % 2 := ⟨_, rfl⟩
              have hqd : ((d : Int) % 2) = (q : Int) := by omega
              have h1c := Lib.hid (show ∀ j z, (cellVs (q, ⟨#[]⟩))[j]? = some z → (wr.alloc (.cells #[.int .u64 ((d : Int) % 2), .string ⟨#[]⟩] 60)).cell? (Addr.add ⟨wr.heap.size, 0, none⟩ j) = some z from by rw [hqd]; exact one_cellv wr (q, ⟨#[]⟩))
              have HB7 := Lib.hid (show Below (gb + 1) wr (wr.alloc (.cells #[.int .u64 ((d : Int) % 2), .string ⟨#[]⟩] 60)) from (Below.refl _ _).alloc HS.out _)
              have HW7 := Lib.hid (HO.out.alloc (.cells #[.int .u64 ((d : Int) % 2), .string ⟨#[]⟩] 60))
              have HQ := Lib.hid hq
              have HL8 := Lib.hid (show (ct ++ [((q, ⟨#[]⟩) : CellB)]).length = j + min (t + 1) M by rw [List.length_append, List.length_singleton]; omega)
              have HK8 := Lib.hid (show xB = 0 → cesL (ct ++ [((q, ⟨#[]⟩) : CellB)]) = cesL cs ++ bitCs (bitsN (min (t + 1) M) c) from fun h => by
                rw [cesL_snoc, HCt.out h, Nat.min_eq_left (by omega), Nat.min_eq_left (by omega), bitsN_snoc, bitCs_snoc, ← HD.out, ← HQ.out, List.append_assoc]; rfl)
              have HX8 := Lib.hid (show xi = (if xB ≠ 0 then xB else if (c / 2 ^ M) % 2 ^ (t + 1 - M) = 0 then 0 else 6) from by
                have := HX.out
                rw [Nat.sub_eq_zero_of_le (by omega)] at this ⊢
                exact this)
              have HQl := Lib.hid (show q < 18446744073709551616 by omega)
              have HE1 := Lib.hid e1
              clear hq hqd hct9 e1 hjt
              go_wp2_with (with_reducible refine wplE_append (gb + 1) _ ?hs HW7.out ⟨wr.heap.size, 0, none⟩ (q, ⟨#[]⟩) ?hx h1c.out ?hn ?hbase (gb + 1) wr HB7.out (Nat.le_refl _) ?_)
              case hs => rfl
              case hx => rfl
              case hn => rw [HE1.out]; omega
              case hbase => rw [World.size_alloc]; have := HS.out; omega
              intro v8 w8 hW8 hB8 hg8
              have HW8 := Lib.hid hW8
              have HC8 := Lib.hid (HCE.out.snoc (c := (q, ⟨#[]⟩)) ⟨HQl.out, by show (ByteArray.size ⟨#[]⟩) ≤ 140737488351232; decide⟩)
              have HM8 := Lib.hid (HM.out.same (hB8.block m (by have := HML.out; have := HS3.out; omega)) fun q hq => hB8.block _ (by have := HVB.out q hq; omega))
              have HG8 := Lib.hid (show w.grownBy w8 (some m) from ⟨hB8.os.trans HG.out.os, hB8.tape.trans HG.out.tape, hB8.output.trans HG.out.output, Nat.le_trans HG.out.size hB8.size, fun q h1 h2 => (hB8.block q (by have := HS3.out; omega)).trans (HG.out.block q h1 h2)⟩)
              have HS8 := Lib.hid (Nat.le_trans HS.out hB8.size)
              clear hW8 hB8 hg8 HO HM HG HS HB7 HW7 h1c HX
              go_wp2
              go_roundw
              case rel => exact ⟨t + 1, d / 2, xi, _, by omega, by go_num, HDe.out, by omega, HD8, HL8, HK8, HW8, HC8, HM8, HG8, HS8, HX8⟩
              case measure => simp [intOf]; omega
            · have e1 : ct.length = n := by have := HM5.out; omega
              rw [e1] at hlen
              have d5 : decide ((n : Int) < (n : Int)) = false := decide_eq_false (by omega)
              have HL8 := Lib.hid (show ct.length = j + min (t + 1) M by omega)
              have HK8 := Lib.hid (show xB = 0 → cesL ct = cesL cs ++ bitCs (bitsN (min (t + 1) M) c) from fun h => by
                rw [HCt.out h, Nat.min_eq_right (by omega), Nat.min_eq_right (by omega)])
              obtain ⟨q, hq⟩ : ∃ q : Nat, q = d % 2 := ⟨_, rfl⟩
              have hqd : ((d : Int) % 2) = (q : Int) := by omega
              obtain ⟨ok, hok⟩ : ∃ ok : Bool, (((d : Int) % 2) == 0) = ok := ⟨_, rfl⟩
              have hok2 : ok = true ↔ d % 2 = 0 := by
                rw [← hok, beq_iff_eq, hqd]; omega
              have HX8 := Lib.hid (show (if xi = 0 then (if ok = true then 0 else 6) else xi) = (if xB ≠ 0 then xB else if (c / 2 ^ M) % 2 ^ (t + 1 - M) = 0 then 0 else 6) from by
                have h := HX.out
                have hb := bit_more c M (t - M)
                rw [show M + (t - M) = t from by omega, ← HD.out, show t - M + 1 = t + 1 - M from by omega] at hb
                by_cases hB0 : xB ≠ 0
                · rw [if_pos hB0] at h ⊢
                  rw [h, if_neg hB0]
                · rw [if_neg hB0] at h ⊢
                  by_cases h1 : c / 2 ^ M % 2 ^ (t - M) = 0
                  · rw [if_pos h1] at h
                    rw [if_pos h]
                    by_cases h2 : ok = true
                    · rw [if_pos h2, if_pos (hb.2 ⟨h1, hok2.1 h2⟩)]
                    · rw [if_neg h2, if_neg (fun h3 => h2 (hok2.2 (hb.1 h3).2))]
                  · rw [if_neg h1] at h
                    rw [if_neg (by omega), if_neg (fun h3 => h1 (hb.1 h3).1)]
                    exact h)
              have MM := Lib.hid (mod_Must m v l k1 xi wr HM.out ok 6)
              have HO9 := Lib.hid HO.out
              clear hq hqd hct9 e1 hok2 HX
              go_wp2_with fail
              clear hok
              refine MM.out.mono ?_
              rintro e w8 ⟨rfl, hg8, hM8⟩
              have HM8 := Lib.hid hM8
              have HG8 := Lib.hid (HG.out.trans hg8)
              have HS8 := Lib.hid (Nat.le_trans HS.out hg8.size)
              have HW8 := Lib.hid (HO.out.grown hg8 (fun q hq => by have := (OwnE.lt HO.out hq).1; have := HML.out; have := HS3.out; intro e; injection e with e; omega))
              clear hg8 hM8 HO HM HG HS MM hlen HO9
              go_wp2
              go_roundw
              case rel => exact ⟨t + 1, d / 2, _, ct, by omega, by go_num, HDe.out, by omega, HD8, HL8, HK8, HW8, HCE, HM8, HG8, HS8, HX8⟩
              case measure => simp [intOf]; omega
          · obtain rfl : t = 8 := by omega
            have e1 : ct.length = j + M := by omega
            have hK : xB = 0 → cesL ct = cesL cs ++ bitCs (bitsN M c) := fun h => by
              have := HCt.out h
              rw [Nat.min_eq_right (by omega)] at this
              exact this
            obtain ⟨f1, f2⟩ := HFin.out xi ct HX.out hK
            have HF1 := Lib.hid (show xi = 0 → (ct.length % 8 = 0 ∨ ct.length = n) ∧ R = rdQ l ((n - ct.length + 7) / 8) (n - ct.length) (cesL ct) k1 from fun h => by
              rw [e1]; exact ⟨HM3.out, f1 h⟩)
            have HF2 := Lib.hid f2
            have HL8 := Lib.hid (show ct.length ≤ n by omega)
            have HLv := Lib.hid (OwnE.lenV HO.out)
            have HE1 := Lib.hid e1
            clear f1 f2 hK e1 htl hct9 hlen
            go_wp2
            go_roundw
            case rel => exact ⟨ct, xi, k1, HL8, HO, HCE, HM, HG, HS, HF1, HF2⟩
            case measure =>
              have h1 := HLv.out
              have h2 := HLu.out
              have h3 := HJ0.out
              have h4 := HE1.out
              have h5 := HM5.out.1
              omega
      · have hq : ((x : Int) == 0) = false := by rw [beq_eq_false_iff_ne]; omega
        have HX := Lib.hid hx
        obtain ⟨r1, r2⟩ := HJ.out hx
        have HF := Lib.hid (show TakeR w m v l 2 n k (.returned u7) wr from ⟨u7, rfl, HG.out, by rw [← HRR.out, r1, r2]; exact HM.out, cs, OwnE.lower HO.out (by have := HS3.out; omega), HC.out, by rw [Int.toNat_natCast]; exact HL.out, fun h => by rw [← HRR.out, r2] at h; exact absurd h HX.out⟩)
        clear r1 r2 hx
        go_wp2
        go_ret
        exact HF.out
    · have hjl : cs.length = n := by rw [← HJ0.out]; omega
      have HF := Lib.hid (show TakeR w m v l 2 n k (.returned u7) wr from by
        by_cases hx : x = 0
        · subst hx
          have e := (HI.out rfl).2
          rw [hjl, Nat.sub_self] at e
          have e : R = (cesL cs, k', 0) := e
          refine ⟨u7, rfl, HG.out, by rw [← HRR.out, e]; exact HM.out, cs, OwnE.lower HO.out (by have := HS3.out; omega), HC.out, by rw [Int.toNat_natCast]; exact HL.out, fun _ => by rw [← HRR.out, e]⟩
        · obtain ⟨r1, r2⟩ := HJ.out hx
          exact ⟨u7, rfl, HG.out, by rw [← HRR.out, r1, r2]; exact HM.out, cs, OwnE.lower HO.out (by have := HS3.out; omega), HC.out, by rw [Int.toNat_natCast]; exact HL.out, fun h => by rw [← HRR.out, r2] at h; exact absurd h hx⟩)
      clear hjl
      go_wp2
      go_ret
      exact HF.out

end Go.Proofs.YteiphdcgffapbaaGreatDoor

