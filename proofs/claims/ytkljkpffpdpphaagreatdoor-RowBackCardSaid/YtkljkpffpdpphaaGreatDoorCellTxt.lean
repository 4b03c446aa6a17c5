/-
  Package cell: the text of bytes.
-/
import Derived.Test.YtkljkpffpdpphaaGreatDoorCellB
import Derived.Test.YtkljkpffpdpphaaGreatDoorGHex
import Derived.Test.YtkljkpffpdpphaaGreatDoorOrdR
set_option linter.unusedVariables false
set_option linter.unusedSimpArgs false
set_option maxRecDepth 1000000
namespace Go.Proofs.YtkljkpffpdpphaaGreatDoor
open Go.RowKit Go.Shelf

/-- A byte of a string, at an index of any kind. -/
theorem RdS.idxK {s : ByteArray} {l : List UInt8} (h : RdS s l) (k : IntKind) (i : Nat) (hi : i < l.length) : ∀ u, (Instr.index 9 (.string s) (.int k (i : Int))).run Tryz.prog u = .ok (.int .u8 (at8 l i)) u := by
  intro u
  rw [h.eq]
  have hs : (⟨l.toArray⟩ : ByteArray).size = l.length := by simp [ByteArray.size]
  rw [run_index_string (P := Tryz.prog) u 9 ⟨l.toArray⟩ k i Tryz.underlying9, dif_pos ⟨by omega, by rw [hs]; omega⟩, at8_eq hi]
  rfl

theorem make_room (n : Int) (h0 : 0 ≤ n) (h1 : n ≤ 281474976710656) (u : World) : (Instr.makeSlice 91 (.int .i64 0) (.int .i64 n)).run Tryz.prog u =
    .ok (.slice (some ⟨u.heap.size, 0, none⟩) 0 n.toNat) (u.alloc (.cells (cellsB (List.replicate n.toNat 0)).toArray 5)) := by
  obtain ⟨i0, hi, hz0, hz1, hz2⟩ := info_parts info_u8
  have h := run_make (P := Tryz.prog) u 91 5 i0 (.int .u8 0) Tryz.underlying91 hi hz0 .i64 .i64 0 n (by omega) h0 (by rw [hz2]; omega) (by omega)
  rw [h, hz1]
  congr 3
  simp [madeCells, cellsB, cellB, Value.cells]
  apply Array.ext
  · simp
  · intro i h1 h2
    simp [Nat.mod_one]

def digs : List UInt8 := [48, 49, 50, 51, 52, 53, 54, 55, 56, 57, 97, 98, 99, 100, 101, 102]
theorem digs_at {r : Nat} (h : r < 16) : at8 digs r = ((dig r).toNat : Int) := by
  have : ∀ r : Fin 16, at8 digs r.val = ((dig r.val).toNat : Int) := by decide
  exact this ⟨r, h⟩
theorem digs_idx (r : Nat) (h : r < 16) : ∀ u, (Instr.index 9 (.string ({ data := #[48, 49, 50, 51, 52, 53, 54, 55, 56, 57, 97, 98, 99, 100, 101, 102] } : ByteArray)) (.int .u8 (r : Int))).run Tryz.prog u = .ok (.int .u8 ((dig r).toNat : Int)) u := by
  intro u
  have hd : RdS ({ data := #[48, 49, 50, 51, 52, 53, 54, 55, 56, 57, 97, 98, 99, 100, 101, 102] } : ByteArray) digs := ⟨rfl, by simp [digs]⟩
  have := hd.idxK .u8 r (by simpa [digs] using h) u
  rw [digs_at h] at this
  exact this

/-- Two bytes, as the slice that append is handed. -/
theorem rd_two (w : World) (a b : UInt8) : Rd (w.alloc (.cells #[.int .u8 (a.toNat : Int), .int .u8 (b.toNat : Int)] 5)) (.slice (some ⟨w.heap.size, 0, none⟩) 2 2) [a, b] :=
  rd_lit w [a, b] (by simp) (0, 0)

/-- 'append(s, x...)' as one operation of a region that draws. -/
theorem op_append {Q : Exit → Act → World → Prop} {K : Act → World → Prop} {a : Act} {w : World} {dst : Option Tmp} {ty : TypeId} {pos : String} {aft : Array Edge} {s x : Operand}
    (base : Nat) (sv : Value) (m : List UInt8) (hs : a.eval s = sv) (ho : Own w base sv m) (xv : Value) (l : List UInt8) (hx : a.eval x = xv) (hR : Rd w xv l) (hn : m.length + l.length ≤ 140737488355328) (hbase : base ≤ w.heap.size)
    (B : Nat) (w0 : World) (hb : Below B w0 w) (hBb : B ≤ base)
    (h : ∀ v' w', Own w' base v' (m ++ l) → Below B w0 w' → K (a.put dst v') w') :
    Oper.wp Tryz.prog ⟨dst, .call ⟨.builtin .append, #[s, x], #[91, 91]⟩, ty, pos, aft, none⟩ a w K Q := by
  have H := wpl_append (ops := #[]) (Q := fun e a' w' => match e with | .normal => K a' w' | _ => False) (rest := []) (dst := dst) (ty := ty) (pos := pos) (aft := aft) base sv m hs ho xv l hx hR hn hbase B w0 hb hBb (fun v' w' h1 h2 _ => h v' w' h1 h2)
  rw [wpList] at H
  rw [if_pos (by rfl)] at H
  rcases H with H | ⟨_, hl⟩
  · unfold Oper.wp at *
    generalize (execOp a.eval _).run Tryz.prog w = r at *
    cases r with
    | ok n w' =>
      cases n <;> simp only [Oper.upon] at H ⊢
      case value u => exact H
      case skip => exact H
      case defer d => exact H
      case enter f args =>
        refine Calls.mono H fun e w'' he => ?_
        cases e with
        | returned u => exact he
        | panicked c => exact he.elim
        | outgrown => obtain ⟨_, _, hf⟩ := he; exact hf.elim
      case row row args => exact Rows.mono H fun u w'' he => he
    | halt x w' =>
      cases x <;> simp only [Oper.upon] at H ⊢
  · obtain ⟨_, _, hf⟩ := hl; exact hf.elim

instance (w : World) : Nonempty (OrdR.GW (fun _ _ => True) w) := ⟨⟨w, trivial⟩⟩
theorem way_all : OrdR.Way (fun _ _ => True) := ⟨fun _ => trivial, fun _ _ _ _ _ => trivial⟩

set_option maxHeartbeats 4000000 in
theorem cell_bytesText (s : ByteArray) (l : List UInt8) (w : World) (h : RdS s l) (hb : l.length ≤ 70368744175616) :
    Calls Tryz.prog 52 #[.string s] w fun e w' => (∃ t, e = .returned (.string t) ∧ RdS t (hexC l)) ∧ Below w.heap.size w w' := by
  have hlen := h.len
  have hidx := h.idx
  have htl := h.toList
  by_cases hl : l = []
  · have hem : s.toList.isEmpty = true := by rw [htl, hl]; rfl
    rw [show hexC l = [45] from if_pos hl]
    clear htl
    go_enter Tryz.func52, Tryz.ntmps52
    go_wp2
    go_ret
    exact ⟨⟨_, rfl, ⟨rfl, by simp⟩⟩, Below.refl _ _⟩
  · have hem : s.toList.isEmpty = false := by rw [htl]; cases l <;> simp_all
    rw [show hexC l = hexL l from if_neg hl]
    clear htl
    have hmk := make_room (2 * (l.length : Int)) (by omega) (by omega)
    have hn2 : (2 * (l.length : Int)).toNat = 2 * l.length := by omega
    rw [hn2] at hmk
    go_enter Tryz.func52, Tryz.ntmps52
    go_wp2
    have hO : Own (w.alloc (.cells (cellsB (List.replicate (2 * l.length) 0)).toArray 5)) w.heap.size (.slice (some ⟨w.heap.size, 0, none⟩) 0 (2 * l.length)) [] :=
      own_of_block (cur := cellsB (List.replicate (2 * l.length) 0)) (Nat.le_refl _) (heap_alloc_new _ _) rfl (by omega) (by unfold maxLen; omega) (by simp [cellsB]) rfl
    have hB : Below w.heap.size w (w.alloc (.cells (cellsB (List.replicate (2 * l.length) 0)).toArray 5)) := (Below.refl _ _).alloc (Nat.le_refl _) _
    clear hmk
    go_loopw [3, 13] (fun a i wr => ∃ (k : Nat), k ≤ l.length ∧ i = .int .i64 k ∧ Hid (Own wr w.heap.size a (hexL (l.take k))) ∧ Hid (Below w.heap.size w wr)) (fun _ i _ => l.length - (intOf i).toNat)
    case atStart => exact ⟨0, by omega, rfl, Lib.hid (by simpa [hexL] using hO), Lib.hid hB⟩
    case round =>
      obtain ⟨k, hk, rfl, HT, HB⟩ := hrel
      clear hO hB
      by_cases hlt : k < l.length
      · have hx := hidx k hlt
        obtain ⟨c, hc⟩ : ∃ c : Nat, at8 l k = (c : Int) := ⟨(l.getD k 0).toNat, rfl⟩
        have hc1 := at8_hi l k
        have hcc : (l.getD k 0).toNat = c := by unfold at8 at hc; omega
        have hsu := hexL_succ hlt
        rw [hcc] at hsu
        rw [hc] at hc1 hx
        obtain ⟨a, ha⟩ : ∃ a, a = c / 16 := ⟨_, rfl⟩
        obtain ⟨b, hb2⟩ : ∃ b, b = c % 16 := ⟨_, rfl⟩
        have ha1 : (c : Int) / 16 = (a : Int) := by omega
        have hb1 : (c : Int) % 16 = (b : Int) := by omega
        have ha16 : a < 16 := by omega
        have hb16 : b < 16 := by omega
        rw [← ha, ← hb2] at hsu
        have hx1 := digs_idx a ha16
        have hx2 := digs_idx b hb16
        have hle := hexL_len (l.take k)
        rw [List.length_take, Nat.min_eq_left hk] at hle
        obtain ⟨da, hda⟩ : ∃ d, d = dig a := ⟨_, rfl⟩
        obtain ⟨db, hdb⟩ : ∃ d, d = dig b := ⟨_, rfl⟩
        rw [← hda] at hx1 hsu
        rw [← hdb] at hx2 hsu
        have HSU := Lib.hid hsu
        have HLE := Lib.hid hle
        clear hcc hc ha hb2 hle hidx hsu hda hdb
        go_wp2
        refine OrdR.wp_region_ord way_all [(0, false), (1, false), (2, false), (3, false), (4, false), (5, false), (6, false), (7, false), (8, false), (9, false), (10, false), (11, true), (12, true), (13, false)] (by kernel_rfl) rfl (by kernel_rfl) (by kernel_rfl) (fun _ _ _ d _ h => by cases d <;> exact h) ?_
        refine OrdR.ord_still rfl rfl (by kernel_rfl) (fun K hK => ?_)
        go_big_quiet_op
        refine hK _ ?_; clear hK K
        refine OrdR.ord_still rfl rfl (by kernel_rfl) (fun K hK => ?_)
        go_big_quiet_op
        refine hK _ ?_; clear hK K
        refine OrdR.ord_still rfl rfl (by kernel_rfl) (fun K hK => ?_)
        go_big_quiet_op
        refine hK _ ?_; clear hK K
        refine OrdR.ord_still rfl rfl (by kernel_rfl) (fun K hK => ?_)
        go_big_quiet_op
        refine hK _ ?_; clear hK K
        refine OrdR.ord_still rfl rfl (by kernel_rfl) (fun K hK => ?_)
        go_big_quiet_op
        refine hK _ ?_; clear hK K
        refine OrdR.ord_still rfl rfl (by kernel_rfl) (fun K hK => ?_)
        go_big_quiet_op
        refine hK _ ?_; clear hK K
        refine OrdR.ord_still rfl rfl (by kernel_rfl) (fun K hK => ?_)
        go_big_quiet_op
        refine hK _ ?_; clear hK K
        refine OrdR.ord_still rfl rfl (by kernel_rfl) (fun K hK => ?_)
        go_big_quiet_op
        refine hK _ ?_; clear hK K
        refine OrdR.ord_still rfl rfl (by kernel_rfl) (fun K hK => ?_)
        go_big_quiet_op
        refine hK _ ?_; clear hK K
        refine OrdR.ord_still rfl rfl (by kernel_rfl) (fun K hK => ?_)
        go_big_quiet_op
        refine hK _ ?_; clear hK K
        refine OrdR.ord_still rfl rfl (by kernel_rfl) (fun K hK => ?_)
        go_big_quiet_op
        refine hK _ ?_; clear hK K
        refine OrdR.ord_loud rfl (by kernel_rfl) (fun K hK => ?_)
        go_big_op
        refine hK _ _ trivial ?_; clear hK K
        have hR := (rd_two wr da db).drew
        have hT := (HT.out.alloc (.cells #[.int .u8 (da.toNat : Int), .int .u8 (db.toNat : Int)] 5)).drew
        have hBw := (HB.out.alloc HB.out.size (.cells #[.int .u8 (da.toNat : Int), .int .u8 (db.toNat : Int)] 5)).drew
        refine OrdR.ord_loud rfl (by kernel_rfl) (fun K hK => ?_)
        with_reducible refine op_append w.heap.size _ _ ?hs hT _ [da, db] ?hx hR ?hn ?hbase w.heap.size w hBw (Nat.le_refl _) ?_
        case hs => rfl
        case hx => rfl
        case hn => rw [HLE.out]; simp; omega
        case hbase => exact hBw.size
        intro v1 w1 ho1 hb1
        rw [List.append_assoc] at HSU
        refine hK _ _ trivial ?_; clear hK K
        go_simp
        refine OrdR.ord_still rfl rfl (by kernel_rfl) (fun K hK => ?_)
        go_big_quiet_op
        refine hK _ ?_; clear hK K
        refine OrdR.ord_nil ?_
        go_wp2
        go_roundw
        case rel => exact ⟨k + 1, by omega, by go_num, Lib.hid (by rw [HSU.out]; exact ho1), Lib.hid hb1⟩
        case measure => simp [intOf]; omega
      · obtain rfl : k = l.length := by omega
        have HT2 := HT.out
        rw [List.take_length] at HT2
        have hle := hexL_len l
        have hst := (HT2.rd (by rw [hle]; omega)).str
        have HT3 := Lib.hid HT2
        have HLE := Lib.hid hle
        clear HT2 hidx hle
        go_wp2
        go_ret
        exact ⟨⟨_, rfl, ⟨rfl, by rw [HLE.out]; omega⟩⟩, HB.out⟩

end Go.Proofs.YtkljkpffpdpphaaGreatDoor
