/-
  The library's strconv, as package cell calls it: numbers written at base 10, and truth values.
-/
import Derived.Test.YtfpidkcdgebnpaaGreatDoorShelf2
import Derived.Test.YtfpidkcdgebnpaaGreatDoorGCell
import Derived.Test.YtfpidkcdgebnpaaGreatDoorGHex
import Derived.Lib.AppendIntMem
import Derived.Lib.SmallJoins
import Derived.Test.YtfpidkcdgebnpaaGreatDoorGBaseA
set_option linter.unusedVariables false
set_option linter.unusedSimpArgs false
set_option maxRecDepth 1000000
namespace Go.Proofs.YtfpidkcdgebnpaaGreatDoor
open Go.RowKit Go.Shelf Go.Sort

/-- The powers of ten lie as the library's initialiser lays them. -/
def Pow (w : World) : Prop := Lib.TabIs Tryz.prog w "internal/strconv.uint64pow10" .u64 Lib.pow10Tab
theorem Pow.later {w w' : World} (h : Pow w) (hb : Below w.heap.size w w') : Pow w' :=
  Joins.var_stays (show Tryz.prog.globalNamed "internal/strconv.uint64pow10" = some 4 by kernel_rfl) h hb (Nat.le_refl _)

theorem below_grow (w : World) (k : Nat) (os : Array Obj) : Below w.heap.size w (grow (w.drewN k) os) := by
  refine ⟨rfl, rfl, rfl, ?_, ?_⟩
  · show w.heap.size ≤ (w.heap ++ os).size
    rw [Array.size_append]; omega
  · intro b hb
    show (w.heap ++ os)[b]? = w.heap[b]?
    rw [Array.getElem?_append_left hb]

theorem dec_eq (u : Nat) : dec u = Lib.decDigits u := by
  induction u using Nat.strongRecOn with
  | _ u ih =>
    by_cases h : u < 10
    · rw [dec_lo h, Lib.decDigits, dif_pos h]
    · rw [dec_hi h, Lib.decDigits, dif_neg h, ih (u / 10) (by omega)]
theorem sdec_eq (x : Int) : sdec x = Lib.itoa x := by
  unfold sdec Lib.itoa
  by_cases h : x < 0
  · rw [if_pos h, if_pos h, dec_eq, show (-x).toNat = x.natAbs by omega]
  · rw [if_neg h, if_neg h, dec_eq]

theorem lib_FormatInt (x : Int) (h0 : -9223372036854775808 ≤ x) (h1 : x ≤ 9223372036854775807) (w : World) (hP : Pow w) :
    Calls Tryz.prog 116 #[.int .i64 x, .int .i64 10] w fun e w' => e = .returned (.string ⟨(sdec x).toArray⟩) ∧ Below w.heap.size w w' := by
  have c : Calls Tryz.prog 116 #[.int .i64 x, .int .i64 10] w _ := Any.strconv_FormatInt_10 Tryz.laysFmtInt x h0 h1 w hP
  rw [← sdec_eq] at c
  refine c.mono fun e w' ⟨he, k, os, hw⟩ => ⟨he, ?_⟩
  rw [hw]; exact below_grow w k os

theorem lib_FormatBool (b : Bool) (w : World) :
    Calls Tryz.prog 117 #[.bool b] w fun e w' => e = .returned (.string ⟨(if b then [116, 114, 117, 101] else [102, 97, 108, 115, 101] : List UInt8).toArray⟩) ∧ w' = w := by
  have c : Calls Tryz.prog 117 #[.bool b] w _ := Any.strconv_FormatBool Tryz.laysFmtBool b w
  have e : (Lib.formatBool b) = (if b then [116, 114, 117, 101] else [102, 97, 108, 115, 101]) := by cases b <;> decide
  rw [e] at c
  exact c

theorem lib_small (i : Nat) (h : i < 100) (w : World) :
    Calls Tryz.prog 171 #[.int .i64 i] w fun e w' => e = .returned (.string ⟨(dec i).toArray⟩) ∧ w' = w := by
  rw [dec_eq]
  exact Any.internal_strconv_small Tryz.laysSmall i h w

set_option maxHeartbeats 4000000 in
theorem intl_FormatUint (u : Nat) (hu64 : u < 18446744073709551616) (w : World) (hP : Pow w) :
    Calls Tryz.prog 150 #[.int .u64 (u : Int), .int .i64 10] w fun e w' => e = .returned (.string ⟨(dec u).toArray⟩) ∧ Below w.heap.size w w' := by
  by_cases hs : u < 100
  · have hd : decide ((u : Int) < 100) = true := decide_eq_true (by omega)
    go_enter Tryz.func150, Tryz.ntmps150
    go_wp2_with fail
    refine (lib_small u hs _).mono ?_
    rintro e w1 ⟨rfl, rfl⟩
    go_wp2
    go_ret
    exact ⟨rfl, Below.refl _ _⟩
  · have hd : decide ((u : Int) < 100) = false := decide_eq_false (by omega)
    have hu1 : 1 ≤ u := by omega
    have hnd20 : Lib.nDigits u ≤ 20 := by have := Lib.numDigits_eq u hu1 hu64; split at this <;> omega
    have hal : Tryz.prog.arrayLen 238 = 24 := by simp [Program.arrayLen, Tryz.underlying238]
    have hsl1 : ∀ W, (Instr.sliceAt 238 (.pointer (some ⟨w.heap.size, 0, none⟩)) none (some (.int .i64 (Lib.nDigits u : Int))) none).run Tryz.prog W = .ok (.slice (some ⟨w.heap.size, 0, none⟩) (Lib.nDigits u) 24) W := fun W => by
      rw [run_sliceAt_array_h W 238 ⟨w.heap.size, 0, none⟩ (by simp [Program.arrayLen, Program.elem, Tryz.underlying238]) .i64 (Lib.nDigits u : Int) (by omega) (by rw [hal]; omega)]
      go_simp
      try omega
    have hH0 := Lib.holds_zero0 w 238 (Lib.nDigits u) (by omega)
    have hfmt : Calls Tryz.prog 173 _ _ _ := Any.internal_strconv_formatBase10 Tryz.laysFB10 w.heap.size 0 24 u (Array.replicate (Lib.nDigits u) 0) (w.alloc (.cells Lib.zeros24 238)) hH0 (by rw [Array.size_replicate]; exact Lib.lt_pow_nDigits u) hu64 (by rw [Array.size_replicate]; omega)
    rw [Array.size_replicate] at hfmt
    have hnum : Calls Tryz.prog 172 #[.int .u64 (u : Int)] (w.alloc (.cells Lib.zeros24 238)) _ := Any.internal_strconv_numDigits Tryz.laysNumDigits u hu1 hu64 _ (Lib.tabIs_alloc hP _)
    have HH0 := Lib.hid hH0
    rw [dec_eq]
    clear hH0 hal
    go_enter Tryz.func150, Tryz.ntmps150
    go_wp2_with fail
    refine hnum.mono ?_
    rintro e w1 ⟨rfl, rfl⟩
    go_wp2_with fail
    refine hfmt.mono ?_
    rintro e w2 ⟨rfl, k, v', dk, rfl, hF⟩
    have hcv : (convert 135 9 (.slice (some ⟨w.heap.size, 0, none⟩) (Lib.nDigits u) 24)).run Tryz.prog ((putRow (fun (b : UInt8) => Value.int .u8 (b.toNat : Int)) (w.alloc (.cells Lib.zeros24 238)) w.heap.size 0 dk).drewN k) = .ok (.string ⟨(Lib.decDigits u).toArray⟩) ((putRow (fun (b : UInt8) => Value.int .u8 (b.toNat : Int)) (w.alloc (.cells Lib.zeros24 238)) w.heap.size 0 dk).drewN k) := by
      have h := run_convert_bytes_back (P := Tryz.prog) ((putRow (fun (b : UInt8) => Value.int .u8 (b.toNat : Int)) (w.alloc (.cells Lib.zeros24 238)) w.heap.size 0 dk).drewN k) 135 9 5 ⟨w.heap.size, 0, none⟩ 24 (Lib.decDigits u) Tryz.underlying135 Tryz.underlying5 Tryz.underlying9 (fun j hj => by
        rw [Lib.row_is_numeral hF j hj, Lib.add_plain, World.cell?_drewN]
        exact cell?_putRow (fun (b : UInt8) => Value.int .u8 (b.toNat : Int)) _ w.heap.size 0 _ dk HH0.out (by rw [hF.size, Array.size_replicate]) j (by rw [hF.size]; rw [Lib.decDigits_length] at hj; exact hj))
      rw [Lib.decDigits_length] at h
      exact h
    go_wp2
    go_ret
    obtain ⟨os, eo⟩ := Lib.fin_at w (.cells Lib.zeros24 238) dk k 0
    refine ⟨rfl, ?_⟩
    rw [eo]; exact below_grow w k os

theorem lib_FormatUint (u : Nat) (hu64 : u < 18446744073709551616) (w : World) (hP : Pow w) :
    Calls Tryz.prog 118 #[.int .u64 (u : Int), .int .i64 10] w fun e w' => e = .returned (.string ⟨(dec u).toArray⟩) ∧ Below w.heap.size w w' := by
  go_enter Tryz.func118, Tryz.ntmps118
  go_wp2_with fail
  refine (intl_FormatUint u hu64 _ hP).mono ?_
  rintro e w1 ⟨rfl, hb⟩
  go_wp2
  go_ret
  exact ⟨rfl, hb⟩

end Go.Proofs.YtfpidkcdgebnpaaGreatDoor


/-
  Package cell: the text of bytes.
-/
namespace Go.Proofs.YtfpidkcdgebnpaaGreatDoor
open Go.RowKit Go.Shelf

/-- A byte of a string, at an index of any kind. -/
theorem RdS.idxK {s : ByteArray} {l : List UInt8} (h : RdS s l) (k : IntKind) (i : Nat) (hi : i < l.length) : ∀ u, (Instr.index 9 (.string s) (.int k (i : Int))).run Tryz.prog u = .ok (.int .u8 (at8 l i)) u := by
  intro u
  rw [h.eq]
  have hs : (⟨l.toArray⟩ : ByteArray).size = l.length := by simp [ByteArray.size]
  rw [run_index_string (P := Tryz.prog) u 9 ⟨l.toArray⟩ k i Tryz.underlying9, dif_pos ⟨by omega, by rw [hs]; omega⟩, at8_eq hi]
  rfl

theorem make_room (n : Int) (h0 : 0 ≤ n) (h1 : n ≤ 281474976710656) (u : World) : (Instr.makeSlice 135 (.int .i64 0) (.int .i64 n)).run Tryz.prog u =
    .ok (.slice (some ⟨u.heap.size, 0, none⟩) 0 n.toNat) (u.alloc (.cells (cellsB (List.replicate n.toNat 0)).toArray 5)) := by
  obtain ⟨i0, hi, hz0, hz1, hz2⟩ := info_parts info_u8
  have h := run_make (P := Tryz.prog) u 135 5 i0 (.int .u8 0) Tryz.underlying135 hi hz0 .i64 .i64 0 n (by omega) h0 (by rw [hz2]; omega) (by omega)
  rw [h, hz1]
  congr 3
  simp [madeCells, cellsB, cellB, Value.cells]
  apply Array.ext
  · simp
  · intro i h1 h2
    simp [Nat.mod_one]

def digs : List UInt8 := [48, 49, 50, 51, 52, 53, 54, 55, 56, 57, 97, 98, 99, 100, 101, 102]
theorem digs_at {r : Nat} (h : r < 16) : at8 digs r = ((dig r).toNat : Int) := by
  have : ∀ r : Fin 16, at8 digs r.val = ((dig r.val).toNat : Int) := by decide
  exact this ⟨r, h⟩
theorem digs_idx (r : Nat) (h : r < 16) : ∀ u, (Instr.index 9 (.string ({ data := #[48, 49, 50, 51, 52, 53, 54, 55, 56, 57, 97, 98, 99, 100, 101, 102] } : ByteArray)) (.int .u8 (r : Int))).run Tryz.prog u = .ok (.int .u8 ((dig r).toNat : Int)) u := by
  intro u
  have hd : RdS ({ data := #[48, 49, 50, 51, 52, 53, 54, 55, 56, 57, 97, 98, 99, 100, 101, 102] } : ByteArray) digs := ⟨rfl, by simp [digs]⟩
  have := hd.idxK .u8 r (by simpa [digs] using h) u
  rw [digs_at h] at this
  exact this

/-- Two bytes, as the slice that append is handed. -/
theorem rd_two (w : World) (a b : UInt8) : Rd (w.alloc (.cells #[.int .u8 (a.toNat : Int), .int .u8 (b.toNat : Int)] 5)) (.slice (some ⟨w.heap.size, 0, none⟩) 2 2) [a, b] :=
  rd_lit w [a, b] (by simp) (0, 0)

/-- 'append(s, x...)' as one operation of a region that draws. -/
theorem op_append {Q : Exit → Act → World → Prop} {K : Act → World → Prop} {a : Act} {w : World} {dst : Option Tmp} {ty : TypeId} {pos : String} {aft : Array Edge} {s x : Operand}
    (base : Nat) (sv : Value) (m : List UInt8) (hs : a.eval s = sv) (ho : Own w base sv m) (xv : Value) (l : List UInt8) (hx : a.eval x = xv) (hR : Rd w xv l) (hn : m.length + l.length ≤ 140737488355328) (hbase : base ≤ w.heap.size)
    (B : Nat) (w0 : World) (hb : Below B w0 w) (hBb : B ≤ base)
    (h : ∀ v' w', Own w' base v' (m ++ l) → Below B w0 w' → K (a.put dst v') w') :
    Oper.wp Tryz.prog ⟨dst, .call ⟨.builtin .append, #[s, x], #[135, 135]⟩, ty, pos, aft, none⟩ a w K Q := by
  have H := wpl_append (ops := #[]) (Q := fun e a' w' => match e with | .normal => K a' w' | _ => False) (rest := []) (dst := dst) (ty := ty) (pos := pos) (aft := aft) base sv m hs ho xv l hx hR hn hbase B w0 hb hBb (fun v' w' h1 h2 _ => h v' w' h1 h2)
  rw [wpList] at H
  rw [if_pos (by rfl)] at H
  rcases H with H | ⟨_, hl⟩
  · unfold Oper.wp at *
    generalize (execOp a.eval _).run Tryz.prog w = r at *
    cases r with
    | ok n w' =>
      cases n <;> simp only [Oper.upon] at H ⊢
      case value u => exact H
      case skip => exact H
      case defer d => exact H
      case enter f args =>
        refine Calls.mono H fun e w'' he => ?_
        cases e with
        | returned u => exact he
        | panicked c => exact he.elim
        | outgrown => obtain ⟨_, _, hf⟩ := he; exact hf.elim
      case row row args => exact Rows.mono H fun u w'' he => he
    | halt x w' =>
      cases x <;> simp only [Oper.upon] at H ⊢
  · obtain ⟨_, _, hf⟩ := hl; exact hf.elim

instance (w : World) : Nonempty (OrdR.GW (fun _ _ => True) w) := ⟨⟨w, trivial⟩⟩
theorem way_all : OrdR.Way (fun _ _ => True) := ⟨fun _ => trivial, fun _ _ _ _ _ => trivial⟩

set_option maxHeartbeats 4000000 in
theorem cell_bytesText (s : ByteArray) (l : List UInt8) (w : World) (h : RdS s l) (hb : l.length ≤ 70368744175616) :
    Calls Tryz.prog 78 #[.string s] w fun e w' => (∃ t, e = .returned (.string t) ∧ RdS t (hexC l)) ∧ Below w.heap.size w w' := by
  have hlen := h.len
  have hidx := h.idx
  have htl := h.toList
  by_cases hl : l = []
  · have hem : s.toList.isEmpty = true := by rw [htl, hl]; rfl
    rw [show hexC l = [45] from if_pos hl]
    clear htl
    go_enter Tryz.func78, Tryz.ntmps78
    go_wp2
    go_ret
    exact ⟨⟨_, rfl, ⟨rfl, by simp⟩⟩, Below.refl _ _⟩
  · have hem : s.toList.isEmpty = false := by rw [htl]; cases l <;> simp_all
    rw [show hexC l = hexL l from if_neg hl]
    clear htl
    have hmk := make_room (2 * (l.length : Int)) (by omega) (by omega)
    have hn2 : (2 * (l.length : Int)).toNat = 2 * l.length := by omega
    rw [hn2] at hmk
    go_enter Tryz.func78, Tryz.ntmps78
    go_wp2
    have hO : Own (w.alloc (.cells (cellsB (List.replicate (2 * l.length) 0)).toArray 5)) w.heap.size (.slice (some ⟨w.heap.size, 0, none⟩) 0 (2 * l.length)) [] :=
      own_of_block (cur := cellsB (List.replicate (2 * l.length) 0)) (Nat.le_refl _) (heap_alloc_new _ _) rfl (by omega) (by unfold maxLen; omega) (by simp [cellsB]) rfl
    have hB : Below w.heap.size w (w.alloc (.cells (cellsB (List.replicate (2 * l.length) 0)).toArray 5)) := (Below.refl _ _).alloc (Nat.le_refl _) _
    clear hmk
    go_loopw [3, 13] (fun a i wr => ∃ (k : Nat), k ≤ l.length ∧ i = .int .i64 k ∧ Hid (Own wr w.heap.size a (hexL (l.take k))) ∧ Hid (Below w.heap.size w wr)) (fun _ i _ => l.length - (intOf i).toNat)
    case atStart => exact ⟨0, by omega, rfl, Lib.hid (by simpa [hexL] using hO), Lib.hid hB⟩
    case round =>
      obtain ⟨k, hk, rfl, HT, HB⟩ := hrel
      clear hO hB
      by_cases hlt : k < l.length
      · have hx := hidx k hlt
        obtain ⟨c, hc⟩ : ∃ c : Nat, at8 l k = (c : Int) := ⟨(l.getD k 0).toNat, rfl⟩
        have hc1 := at8_hi l k
        have hcc : (l.getD k 0).toNat = c := by unfold at8 at hc; omega
        have hsu := hexL_succ hlt
        rw [hcc] at hsu
        rw [hc] at hc1 hx
        obtain ⟨a, ha⟩ : ∃ a, a = c / 16 := ⟨_, rfl⟩
        obtain ⟨b, hb2⟩ : ∃ b, b = c % 16 := ⟨_, rfl⟩
        have ha1 : (c : Int) / 16 = (a : Int) := by omega
        have hb1 : (c : Int) % 16 = (b : Int) := by omega
        have ha16 : a < 16 := by omega
        have hb16 : b < 16 := by omega
        rw [← ha, ← hb2] at hsu
        have hx1 := digs_idx a ha16
        have hx2 := digs_idx b hb16
        have hle := hexL_len (l.take k)
        rw [List.length_take, Nat.min_eq_left hk] at hle
        obtain ⟨da, hda⟩ : ∃ d, d = dig a := ⟨_, rfl⟩
        obtain ⟨db, hdb⟩ : ∃ d, d = dig b := ⟨_, rfl⟩
        rw [← hda] at hx1 hsu
        rw [← hdb] at hx2 hsu
        have HSU := Lib.hid hsu
        have HLE := Lib.hid hle
        clear hcc hc ha hb2 hle hidx hsu hda hdb
        go_wp2
        refine OrdR.wp_region_ord way_all [(0, false), (1, false), (2, false), (3, false), (4, false), (5, false), (6, false), (7, false), (8, false), (9, false), (10, false), (11, true), (12, true), (13, false)] (by kernel_rfl) rfl (by kernel_rfl) (by kernel_rfl) (fun _ _ _ d _ h => by cases d <;> exact h) ?_
        refine OrdR.ord_still rfl rfl (by kernel_rfl) (fun K hK => ?_)
        go_big_quiet_op
        refine hK _ ?_; clear hK K
        refine OrdR.ord_still rfl rfl (by kernel_rfl) (fun K hK => ?_)
        go_big_quiet_op
        refine hK _ ?_; clear hK K
        refine OrdR.ord_still rfl rfl (by kernel_rfl) (fun K hK => ?_)
        go_big_quiet_op
        refine hK _ ?_; clear hK K
        refine OrdR.ord_still rfl rfl (by kernel_rfl) (fun K hK => ?_)
        go_big_quiet_op
        refine hK _ ?_; clear hK K
        refine OrdR.ord_still rfl rfl (by kernel_rfl) (fun K hK => ?_)
        go_big_quiet_op
        refine hK _ ?_; clear hK K
        refine OrdR.ord_still rfl rfl (by kernel_rfl) (fun K hK => ?_)
        go_big_quiet_op
        refine hK _ ?_; clear hK K
        refine OrdR.ord_still rfl rfl (by kernel_rfl) (fun K hK => ?_)
        go_big_quiet_op
        refine hK _ ?_; clear hK K
        refine OrdR.ord_still rfl rfl (by kernel_rfl) (fun K hK => ?_)
        go_big_quiet_op
        refine hK _ ?_; clear hK K
        refine OrdR.ord_still rfl rfl (by kernel_rfl) (fun K hK => ?_)
        go_big_quiet_op
        refine hK _ ?_; clear hK K
        refine OrdR.ord_still rfl rfl (by kernel_rfl) (fun K hK => ?_)
        go_big_quiet_op
        refine hK _ ?_; clear hK K
        refine OrdR.ord_still rfl rfl (by kernel_rfl) (fun K hK => ?_)
        go_big_quiet_op
        refine hK _ ?_; clear hK K
        refine OrdR.ord_loud rfl (by kernel_rfl) (fun K hK => ?_)
        go_big_op
        refine hK _ _ trivial ?_; clear hK K
        have hR := (rd_two wr da db).drew
        have hT := (HT.out.alloc (.cells #[.int .u8 (da.toNat : Int), .int .u8 (db.toNat : Int)] 5)).drew
        have hBw := (HB.out.alloc HB.out.size (.cells #[.int .u8 (da.toNat : Int), .int .u8 (db.toNat : Int)] 5)).drew
        refine OrdR.ord_loud rfl (by kernel_rfl) (fun K hK => ?_)
        with_reducible refine op_append w.heap.size _ _ ?hs hT _ [da, db] ?hx hR ?hn ?hbase w.heap.size w hBw (Nat.le_refl _) ?_
        case hs => rfl
        case hx => rfl
        case hn => rw [HLE.out]; simp; omega
        case hbase => exact hBw.size
        intro v1 w1 ho1 hb1
        rw [List.append_assoc] at HSU
        refine hK _ _ trivial ?_; clear hK K
        go_simp
        refine OrdR.ord_still rfl rfl (by kernel_rfl) (fun K hK => ?_)
        go_big_quiet_op
        refine hK _ ?_; clear hK K
        refine OrdR.ord_nil ?_
        go_wp2
        go_roundw
        case rel => exact ⟨k + 1, by omega, by go_num, Lib.hid (by rw [HSU.out]; exact ho1), Lib.hid hb1⟩
        case measure => simp [intOf]; omega
      · obtain rfl : k = l.length := by omega
        have HT2 := HT.out
        rw [List.take_length] at HT2
        have hle := hexL_len l
        have hst := (HT2.rd (by rw [hle]; omega)).str
        have HT3 := Lib.hid HT2
        have HLE := Lib.hid hle
        clear HT2 hidx hle
        go_wp2
        go_ret
        exact ⟨⟨_, rfl, ⟨rfl, by rw [HLE.out]; omega⟩⟩, HB.out⟩

end Go.Proofs.YtfpidkcdgebnpaaGreatDoor


/-
  The library's FormatUint at base 16.
-/
namespace Go.Proofs.YtfpidkcdgebnpaaGreatDoor
open Go.RowKit Go.Shelf

/-- A number's digits at base 16. -/
def hx (x : Nat) : List UInt8 := if x < 16 then [dig x] else hx (x / 16) ++ [dig (x % 16)]
  termination_by x
  decreasing_by omega
theorem hx_lo {x : Nat} (h : x < 16) : hx x = [dig x] := by rw [hx, if_pos h]
theorem hx_hi {x : Nat} (h : ¬ x < 16) : hx x = hx (x / 16) ++ [dig (x % 16)] := by rw [hx, if_neg h]

/-- The one place of the library's table that is read. -/
def Deb (w : World) : Prop := w.cell? ⟨6, 15, none⟩ = some (.int .u8 4)
theorem Deb.later {w w' : World} (h : Deb w) (hb : Below w.heap.size w w') : Deb w' := by
  have hlt : 6 < w.heap.size := by
    rcases Nat.lt_or_ge 6 w.heap.size with h' | h'
    · exact h'
    · unfold Deb at h; simp [World.cell?, Array.getElem?_eq_none h'] at h
  exact (World.cell?_of_block (hb.block _ hlt)).trans h

theorem lib_isPow (w : World) : Calls Tryz.prog 191 #[.int .i64 16] w fun e w' => e = .returned (.bool true) ∧ w' = w := by
  have h : bits .and .i64 16 15 = 0 := by decide
  go_enter Tryz.func191, Tryz.ntmps191
  go_wp2
  go_ret
  exact ⟨rfl, rfl⟩

theorem lib_TZ64 (w : World) (hD : Deb w) : Calls Tryz.prog 201 #[.int .u64 16] w fun e w' => e = .returned (.int .i64 4) ∧ w' = w := by
  unfold Deb at hD
  have h : bits .and .u64 16 18446744073709551600 = 16 := by decide
  have h1 : IntKind.u64.wrap (-16) = 18446744073709551600 := by decide
  have h3 : IntKind.u64.wrap 4573923408821661840 = 4573923408821661840 := by decide
  have hix : ∀ u, (Instr.indexAt 264 (.pointer (some ⟨6, 0, none⟩)) (.int .u64 15)).run Tryz.prog u = .ok (.pointer (some ⟨6, 15, none⟩)) u := fun u => by kernel_rfl
  go_enter Tryz.func201, Tryz.ntmps201
  go_wp2
  go_ret
  exact ⟨rfl, rfl⟩

theorem lib_TZ (w : World) (hD : Deb w) : Calls Tryz.prog 192 #[.int .u64 16] w fun e w' => e = .returned (.int .i64 4) ∧ w' = w := by
  go_enter Tryz.func192, Tryz.ntmps192
  go_wp2_with fail
  refine (lib_TZ64 w hD).mono ?_
  rintro e w1 ⟨rfl, rfl⟩
  go_wp2
  go_ret
  exact ⟨rfl, rfl⟩

def digs36 : List UInt8 := [48, 49, 50, 51, 52, 53, 54, 55, 56, 57, 97, 98, 99, 100, 101, 102, 103, 104, 105, 106, 107, 108, 109, 110, 111, 112, 113, 114, 115, 116, 117, 118, 119, 120, 121, 122]
theorem digs36_at {r : Nat} (h : r < 16) : at8 digs36 r = ((dig r).toNat : Int) := by
  have : ∀ r : Fin 16, at8 digs36 r.val = ((dig r.val).toNat : Int) := by decide
  exact this ⟨r, h⟩
theorem digs36_idx (r : Nat) (h : r < 16) : ∀ u, (Instr.index 9 (.string ({ data := #[48, 49, 50, 51, 52, 53, 54, 55, 56, 57, 97, 98, 99, 100, 101, 102, 103, 104, 105, 106, 107, 108, 109, 110, 111, 112, 113, 114, 115, 116, 117, 118, 119, 120, 121, 122] } : ByteArray)) (.int .u64 (r : Int))).run Tryz.prog u = .ok (.int .u8 ((dig r).toNat : Int)) u := by
  intro u
  have hd : RdS ({ data := #[48, 49, 50, 51, 52, 53, 54, 55, 56, 57, 97, 98, 99, 100, 101, 102, 103, 104, 105, 106, 107, 108, 109, 110, 111, 112, 113, 114, 115, 116, 117, 118, 119, 120, 121, 122] } : ByteArray) digs36 := ⟨rfl, by simp [digs36]⟩
  have := hd.idxK .u64 r (by simp [digs36]; omega) u
  rw [digs36_at h] at this
  exact this

theorem set_back (pre : List Value) (suf : List UInt8) (i : Nat) (d : UInt8) (hi : pre.length = i + 1) :
    ((pre ++ cellsB suf).toArray).setIfInBounds i (.int .u8 (d.toNat : Int)) = (pre.take i ++ cellsB (d :: suf)).toArray := by
  rw [List.setIfInBounds_toArray, List.set_append, if_pos (by omega), List.set_eq_take_append_cons_drop, if_pos (by omega)]
  congr 1
  simp [cellsB, cellB, hi]
  
/-- The buffer: a block of 65 places, the last ones are the digits that are there. -/
def Buf (w : World) (g i : Nat) (suf : List UInt8) : Prop := suf.length + i = 65 ∧ ∃ pre : List Value, pre.length = i ∧ w.heap[g]? = some (.cells (pre ++ cellsB suf).toArray 255 (0, 0))
theorem Buf.old {w : World} {g i : Nat} {suf : List UInt8} (h : Buf w g (i + 1) suf) : ∃ v, w.cell? ⟨g, i, none⟩ = some v := by
  obtain ⟨_, pre, hp, hr⟩ := h
  rw [cell_of_row _ _ _ _ _ _ hr]
  exact ⟨_, Array.getElem?_eq_getElem (by simp; omega)⟩
theorem Buf.free {w : World} {g i : Nat} {suf : List UInt8} (h : Buf w g i suf) (k : Nat) : w.frozen? ⟨g, k, none⟩ = false := by
  obtain ⟨_, pre, hp, hr⟩ := h
  exact frozen_of_row _ _ _ _ _ hr
theorem Buf.put {w : World} {g i : Nat} {suf : List UInt8} (h : Buf w g (i + 1) suf) (d : UInt8) : Buf (w.setCell ⟨g, i, none⟩ (.int .u8 (d.toNat : Int))) g i (d :: suf) := by
  obtain ⟨hl, pre, hp, hr⟩ := h
  refine ⟨by simp; omega, pre.take i, by simp; omega, ?_⟩
  have := block_setCell (k := i) hr (.int .u8 (d.toNat : Int))
  rw [set_back pre suf i d hp] at this
  exact this
theorem Buf.text {w : World} {g i : Nat} {suf : List UInt8} (h : Buf w g i suf) : (convert 135 9 (.slice (some ⟨g, i, none⟩) (65 - i) (65 - i))).run Tryz.prog w = .ok (.string ⟨suf.toArray⟩) w := by
  obtain ⟨hl, pre, hp, hr⟩ := h
  have h := run_convert_bytes_back (P := Tryz.prog) w 135 9 5 ⟨g, i, none⟩ (65 - i) suf Tryz.underlying135 Tryz.underlying5 Tryz.underlying9 (fun j hj => by
    rw [Lib.add_plain, cell_of_row _ _ _ _ _ _ hr]
    simp [cellsB, cellB, hp, hj])
  rw [show suf.length = 65 - i from by omega] at h
  exact h

theorem buf_zero (w : World) : Buf (w.alloc (.cells Tryz.zeroCells255 255)) w.heap.size 65 [] := by
  refine ⟨rfl, Tryz.zeroCells255.toList, by kernel_rfl, ?_⟩
  have := heap_alloc_new w (.cells Tryz.zeroCells255 255 (0, 0))
  simpa [cellsB] using this

theorem buf_idx (g k : Nat) (hk : k < 65) (z : Int) (hz : z = (k : Int)) : ∀ u, (Instr.indexAt 255 (.pointer (some ⟨g, 0, none⟩)) (.int .i64 z)).run Tryz.prog u = .ok (.pointer (some ⟨g, k, none⟩)) u := by
  intro u
  subst hz
  have ha : Tryz.prog.arrayLen 255 = 65 := by simp [Program.arrayLen, Tryz.underlying255]
  have he : Tryz.prog.elem 255 = 5 := by simp [Program.elem, Tryz.underlying255]
  have h := run_indexAt_array (P := Tryz.prog) (w := u) 255 ⟨g, 0, none⟩ .i64 (k : Int) (by rw [ha, he]; exact Tryz.underlying255)
  rw [h, ha, if_pos ⟨by omega, by omega⟩, he]
  simp [go_sem, Result.andThen, Addr.add]
  try omega

theorem buf_slice (g k : Nat) (hk : k < 65) (z : Int) (hz : z = (k : Int)) : ∀ u, (Instr.sliceAt 255 (.pointer (some ⟨g, 0, none⟩)) (some (.int .i64 z)) none none).run Tryz.prog u = .ok (.slice (some ⟨g, k, none⟩) (65 - k) (65 - k)) u := by
  intro u
  subst hz
  have ha : Tryz.prog.arrayLen 255 = 65 := by simp [Program.arrayLen, Tryz.underlying255]
  rw [run_sliceAt_array_l u 255 ⟨g, 0, none⟩ (by simp [Program.arrayLen, Program.elem, Tryz.underlying255]) .i64 (k : Int) (by omega) (by rw [ha]; omega)]
  rw [ha]
  go_simp
  try omega

set_option maxHeartbeats 4000000 in
theorem lib_formatBits (x : Nat) (hx64 : x < 18446744073709551616) (w : World) (hD : Deb w) :
    Calls Tryz.prog 174 #[.slice none 0 0, .int .u64 (x : Int), .int .i64 16, .bool false, .bool false] w fun e w' => e = .returned (.tuple #[.slice none 0 0, .string ⟨(hx x).toArray⟩]) ∧ Below w.heap.size w w' := by
  have hB0 := buf_zero w
  have hb0 : Below w.heap.size w (w.alloc (.cells Tryz.zeroCells255 255)) := (Below.refl _ _).alloc (Nat.le_refl _) _
  have hDD := hD.later hb0
  clear hD
  go_enter Tryz.func174, Tryz.ntmps174
  go_wp2_with fail
  refine (lib_isPow _).mono ?_
  rintro e w1 ⟨rfl, rfl⟩
  go_wp2_with fail
  refine (lib_TZ _ hDD).mono ?_
  rintro e w2 ⟨rfl, rfl⟩
  clear hDD
  go_wp2_with fail
  go_loopw [1, 13] (fun qq ii wr => ∃ (q k : Nat) (suf : List UInt8), qq = .int .u64 (q : Int) ∧ ii = .int .i64 ((k : Int) + 1) ∧ 49 ≤ k ∧ k ≤ 64 ∧ q < 18446744073709551616 ∧ Hid (q < 16 ^ (k - 48)) ∧ Hid (hx x = hx q ++ suf) ∧ Hid (Buf wr w.heap.size (k + 1) suf) ∧ Hid (Below w.heap.size w wr)) (fun qq _ _ => (intOf qq).toNat)
  case atStart => exact ⟨x, 64, [], rfl, rfl, by omega, by omega, hx64, Lib.hid (by omega), Lib.hid (by simp), Lib.hid hB0, Lib.hid hb0⟩
  case round =>
    obtain ⟨q, k, suf, rfl, rfl, hk1, hk2, hq64, HQ, HX, HBF, HB⟩ := hrel
    clear hB0 hb0
    by_cases hq : 16 ≤ q
    · obtain ⟨j, rfl⟩ : ∃ j, k = j + 1 := ⟨k - 1, by omega⟩
      have hj : 49 ≤ j := by
        rcases Nat.lt_or_ge 49 (j + 1) with h | h
        · omega
        · have : j + 1 = 49 := by omega
          have hq2 := HQ.out
          rw [this] at hq2
          omega
      obtain ⟨old, hold⟩ := HBF.out.old
      have hfr := HBF.out.free (j + 1)
      have hix := buf_idx w.heap.size (j + 1) (by omega) ((j : Int) + 1) (by omega)
      have hand : bits .and .u64 (q : Int) 15 = ((q % 16 : Nat) : Int) := by
        have h := u64_and_nat q 15 hq64 (by omega)
        rw [show ((15 : Nat) : Int) = 15 from rfl, show q &&& 15 = q % 16 from Nat.and_two_pow_sub_one_eq_mod q 4] at h
        exact h
      obtain ⟨r, hr⟩ : ∃ r, q % 16 = r := ⟨_, rfl⟩
      have hr16 : r < 16 := by omega
      have hxs := hx_hi (x := q) (by omega)
      rw [hr] at hand hxs
      have hdi := digs36_idx r hr16
      obtain ⟨p, hp⟩ : ∃ p, q / 16 = p := ⟨_, rfl⟩
      have hpz : (q : Int) / 16 = (p : Int) := by omega
      have hp64 : p < 18446744073709551616 := by omega
      have HPQ := Lib.hid (show p < 16 ^ (j - 48) from by
        have h1 := HQ.out
        rw [show j + 1 - 48 = (j - 48) + 1 from by omega, Nat.pow_succ] at h1
        rw [← hp]; exact Nat.div_lt_of_lt_mul (by rw [Nat.mul_comm]; exact h1))
      rw [hp] at hxs
      have HXS := Lib.hid hxs
      have HLT := Lib.hid (show p < q from by omega)
      clear hxs hr hp
      go_wp2
      go_roundw
      case rel =>
        refine ⟨p, j, dig r :: suf, rfl, rfl, hj, by omega, hp64, HPQ, ?_, Lib.hid (HBF.out.put (dig r)), ?_⟩
        · refine Lib.hid ?_
          rw [HX.out, HXS.out, List.append_assoc]
          rfl
        · exact Lib.hid (HB.out.setCell (Nat.le_refl _) _)
      case measure => have := HLT.out; simp [intOf]; omega
    · obtain ⟨old, hold⟩ := HBF.out.old
      have hfr := HBF.out.free k
      have hix := buf_idx w.heap.size k (by omega) (k : Int) rfl
      have hdi := digs36_idx q (by omega)
      have hsl := buf_slice w.heap.size k (by omega) (k : Int) rfl
      have hnew := HBF.out.put (dig q)
      have htx := hnew.text
      have HXS := Lib.hid (show hx x = dig q :: suf from by rw [HX.out, hx_lo (by omega)]; rfl)
      have HBN := Lib.hid (HB.out.setCell (p := ⟨w.heap.size, k, none⟩) (Nat.le_refl _) (.int .u8 ((dig q).toNat : Int)))
      clear hnew HQ HX
      go_wp2
      go_ret2
      exact ⟨by rw [HXS.out]; rfl, HBN.out⟩

theorem intl_FormatHex (x : Nat) (hx64 : x < 18446744073709551616) (w : World) (hD : Deb w) :
    Calls Tryz.prog 150 #[.int .u64 (x : Int), .int .i64 16] w fun e w' => e = .returned (.string ⟨(hx x).toArray⟩) ∧ Below w.heap.size w w' := by
  go_enter Tryz.func150, Tryz.ntmps150
  go_wp2_with fail
  refine (lib_formatBits x hx64 _ hD).mono ?_
  rintro e w1 ⟨rfl, hb⟩
  go_wp2
  go_ret
  exact ⟨rfl, hb⟩

theorem lib_FormatHex (x : Nat) (hx64 : x < 18446744073709551616) (w : World) (hD : Deb w) :
    Calls Tryz.prog 118 #[.int .u64 (x : Int), .int .i64 16] w fun e w' => e = .returned (.string ⟨(hx x).toArray⟩) ∧ Below w.heap.size w w' := by
  go_enter Tryz.func118, Tryz.ntmps118
  go_wp2_with fail
  refine (intl_FormatHex x hx64 _ hD).mono ?_
  rintro e w1 ⟨rfl, hb⟩
  go_wp2
  go_ret
  exact ⟨rfl, hb⟩

end Go.Proofs.YtfpidkcdgebnpaaGreatDoor


/-
  Package cell: Float, the text of bytes and of what is wrong; the document's example.
-/
namespace Go.Proofs.YtfpidkcdgebnpaaGreatDoor
open Go.RowKit Go.Shelf

theorem cell_Int (x : Int) (n : Nat) (hn : x % 18446744073709551616 = (n : Int)) (w : World) :
    Calls Tryz.prog 54 #[.int .i64 x] w fun e w' => e = .returned (cellV n ⟨#[]⟩) ∧ Below w.heap.size w w' := by
  have hw : IntKind.u64.wrap x = (n : Int) := by
    have : IntKind.u64.wrap x = x % 18446744073709551616 := by simp [IntKind.wrap, IntKind.signed, IntKind.bits]
    omega
  clear hn
  unfold cellV
  go_enter Tryz.func54, Tryz.ntmps54
  go_wp2
  refine bodyPost_ret (by simp [results, Tryz.results54, go_sem]; try rfl) rfl ?_
  exact ⟨rfl, (Below.refl _ _).alloc (Nat.le_refl _) _⟩

set_option maxHeartbeats 2000000 in
theorem cell_TextE (kind : Int) (num : Nat) (s : ByteArray) (l : List UInt8) (w : World) (h : RdS s l) (hT : Tabs w) (he : checkC kind num l ≠ 0) :
    Calls Tryz.prog 53 #[.int .i64 kind, cellV num s] w fun e w' => e = .returned (.tuple #[.string ⟨#[]⟩, .int .i64 (checkC kind num l : Nat)]) ∧ Below w.heap.size w w' := by
  obtain ⟨N0, N1, N2⟩ := new1 w (.cells #[.int .u64 (num : Int), .string s] 71)
  obtain ⟨w0, hw0⟩ : ∃ w0, w0 = w.alloc (.cells #[.int .u64 (num : Int), .string s] 71) := ⟨_, rfl⟩
  rw [← hw0] at N0 N1 N2
  have a0 := new_cellC (i := 0) N1 rfl
  have a1 := new_cellC (i := 1) N1 rfl
  have hcv : ∀ n u, cellV n u = .agg #[.int .u64 (n : Int), .string u] := fun _ _ => rfl
  have hD := cell_Check kind num s l w0 h (hT.later N2)
  obtain ⟨c, hc⟩ : ∃ c, checkC kind num l = c := ⟨_, rfl⟩
  rw [hc] at he hD ⊢
  have hne : ((c : Int) != 0) = true := by simp; omega
  clear hc
  go_enter Tryz.func53, Tryz.ntmps53
  go_wp2_with fail
  rw [← hw0]
  clear hw0
  refine hD.mono ?_
  rintro e w2 ⟨rfl, hb⟩
  have HB := Lib.hid (N2.trans (hb.mono N2.size))
  clear hb N1 N2 a0 a1 hD
  go_wp2
  go_ret2
  exact ⟨rfl, HB.out⟩

set_option maxHeartbeats 2000000 in
theorem cell_TextB (kind : Int) (hk : kind = 3 ∨ kind = 4) (num : Nat) (s : ByteArray) (l : List UInt8) (w : World) (h : RdS s l) (hT : Tabs w) (he : checkC kind num l = 0) (hb : l.length ≤ 70368744175616) :
    Calls Tryz.prog 53 #[.int .i64 kind, cellV num s] w fun e w' => (∃ t, e = .returned (.tuple #[.string t, .int .i64 0]) ∧ RdS t (hexC l)) ∧ Below w.heap.size w w' := by
  obtain ⟨N0, N1, N2⟩ := new1 w (.cells #[.int .u64 (num : Int), .string s] 71)
  obtain ⟨w0, hw0⟩ : ∃ w0, w0 = w.alloc (.cells #[.int .u64 (num : Int), .string s] 71) := ⟨_, rfl⟩
  rw [← hw0] at N0 N1 N2
  have a0 := new_cellC (i := 0) N1 rfl
  have a1 := new_cellC (i := 1) N1 rfl
  have hcv : ∀ n u, cellV n u = .agg #[.int .u64 (n : Int), .string u] := fun _ _ => rfl
  have hD := cell_Check kind num s l w0 h (hT.later N2)
  rw [he] at hD
  rcases hk with rfl | rfl
  · go_enter Tryz.func53, Tryz.ntmps53
    go_wp2_with fail
    rw [← hw0]
    clear hw0
    refine hD.mono ?_
    rintro e w2 ⟨rfl, hb2⟩
    have HB := Lib.hid (N2.trans (hb2.mono N2.size))
    have s1 := (hb2.block _ (by omega)).trans N1
    have b1 := new_cellC (i := 1) s1 rfl
    clear hb2 N1 N2 a0 a1 hD s1
    go_wp2_with fail
    refine (cell_bytesText s l _ h hb).mono ?_
    rintro e w3 ⟨⟨t, rfl, ht⟩, hb3⟩
    have HB3 := Lib.hid (HB.out.trans (hb3.mono HB.out.size))
    clear hb3
    go_wp2
    go_ret2
    exact ⟨⟨_, rfl, ht⟩, HB3.out⟩
  · go_enter Tryz.func53, Tryz.ntmps53
    go_wp2_with fail
    rw [← hw0]
    clear hw0
    refine hD.mono ?_
    rintro e w2 ⟨rfl, hb2⟩
    have HB := Lib.hid (N2.trans (hb2.mono N2.size))
    have s1 := (hb2.block _ (by omega)).trans N1
    have b1 := new_cellC (i := 1) s1 rfl
    clear hb2 N1 N2 a0 a1 hD s1
    go_wp2_with fail
    refine (cell_bytesText s l _ h hb).mono ?_
    rintro e w3 ⟨⟨t, rfl, ht⟩, hb3⟩
    have HB3 := Lib.hid (HB.out.trans (hb3.mono HB.out.size))
    clear hb3
    go_wp2
    go_ret2
    exact ⟨⟨_, rfl, ht⟩, HB3.out⟩

theorem empty_rd : RdS (⟨#[]⟩ : ByteArray) [] := ⟨rfl, by simp⟩

end Go.Proofs.YtfpidkcdgebnpaaGreatDoor


/-
  Package cell: the text of a number, of each kind.
-/
namespace Go.Proofs.YtfpidkcdgebnpaaGreatDoor
open Go.RowKit Go.Shelf

theorem builderX : Builder.Extra Tryz.prog Tryz.laysRepeat_ren := {
  sizeBuilder := by kernel_rfl
  liesBuilder := by kernel_rfl
  t5 := Tryz.underlying5
  a5 := Tryz.isAgg5
  z5 := Tryz.sizeOf5
  v5 := Tryz.zeroValue5
  infoByte := by kernel_rfl
  cellsByte := by kernel_rfl
  sizeByte := by kernel_rfl
  neB5 := by decide }

theorem repeat_zero : ∀ n, Lib.repeatL [48] n = List.replicate n 48
  | 0 => rfl
  | n + 1 => by rw [Lib.repeatL, repeat_zero n, List.replicate_succ]; rfl

theorem lib_Zeros (n : Nat) (hn : n ≤ 100) (w : World) :
    Calls Tryz.prog 119 #[.string ({ data := #[48] } : ByteArray), .int .i64 (n : Int)] w fun e w' => e = .returned (.string ⟨(List.replicate n 48).toArray⟩) ∧ Below w.heap.size w w' := by
  have c : Calls Tryz.prog 119 #[.string ({ data := #[48] } : ByteArray), .int .i64 (n : Int)] w _ := Any.strings_Repeat Tryz.laysRepeat builderX ({ data := #[48] } : ByteArray) n w (by omega) (by show 1 * n ≤ _; omega)
  rw [show ({ data := #[48] } : ByteArray).data.toList = [48] from rfl, repeat_zero] at c
  exact c

theorem hx_len : ∀ (k x : Nat), x < 16 ^ (k + 1) → (hx x).length ≤ k + 1
  | 0, x, h => by rw [hx_lo (by simpa using h)]; simp
  | k + 1, x, h => by
    by_cases h16 : x < 16
    · rw [hx_lo h16]; simp
    · rw [hx_hi h16, List.length_append]
      have := hx_len k (x / 16) (Nat.div_lt_of_lt_mul (by rw [Nat.mul_comm]; rw [Nat.pow_succ] at h; exact h))
      simp; omega

/-- The text of a number of a kind. -/
def numL (kind : Int) (x : Nat) : List UInt8 :=
  if kind = 0 then sdec (wrap64 (x : Int)) else if kind = 2 then (if x = 1 then [116, 114, 117, 101] else [102, 97, 108, 115, 101])
  else if kind = 5 then List.replicate (16 - (hx x).length) 48 ++ hx x else dec x

theorem sdec_len (x : Int) (h0 : -9223372036854775808 ≤ x) (h1 : x ≤ 9223372036854775807) : (sdec x).length ≤ 30 := by
  unfold sdec
  split
  · have := dec_len 19 (-x).toNat (by omega)
    simp; omega
  · have := dec_len 19 x.toNat (by omega)
    omega

/-- What the library's tables must hold. -/
structure Lib3 (w : World) : Prop where
  tabs : Tabs w
  pow : Pow w
  deb : Deb w
theorem Lib3.later {w w' : World} (h : Lib3 w) (hb : Below w.heap.size w w') : Lib3 w' := ⟨h.tabs.later hb, h.pow.later hb, h.deb.later hb⟩

theorem wrap_bounds (x : Nat) (hx : x < 18446744073709551616) : -9223372036854775808 ≤ wrap64 (x : Int) ∧ wrap64 (x : Int) ≤ 9223372036854775807 := by
  unfold wrap64; omega

set_option maxHeartbeats 2000000 in
theorem cell_numText (kind : Int) (hk : kind = 0 ∨ kind = 1 ∨ kind = 2 ∨ kind = 5) (x : Nat) (hx64 : x < 18446744073709551616) (w : World) (hT : Lib3 w) :
    Calls Tryz.prog 79 #[.int .i64 kind, .int .u64 (x : Int)] w fun e w' => (∃ t, e = .returned (.string t) ∧ RdS t (numL kind x)) ∧ Below w.heap.size w w' := by
  rcases hk with rfl | rfl | rfl | rfl
  · have hwb := wrap_bounds x hx64
    have hlen := sdec_len _ hwb.1 hwb.2
    have hc := lib_FormatInt (wrap64 (x : Int)) hwb.1 hwb.2 w hT.pow
    have HN := Lib.hid (show numL 0 x = sdec (wrap64 (x : Int)) from by unfold numL; rw [if_pos rfl])
    have HL := Lib.hid hlen
    clear hwb hlen
    go_enter Tryz.func79, Tryz.ntmps79
    go_wp2_with fail
    refine hc.mono ?_
    rintro e w1 ⟨rfl, hb⟩
    have HB := Lib.hid hb
    clear hb hc
    go_wp2
    go_ret
    exact ⟨⟨_, rfl, ⟨by rw [HN.out], by rw [HN.out]; have := HL.out; omega⟩⟩, HB.out⟩
  · have hlen := dec_len 19 x (by omega)
    have HN := Lib.hid (show numL 1 x = dec x from by unfold numL; rw [if_neg (by decide), if_neg (by decide), if_neg (by decide)])
    have HL := Lib.hid hlen
    clear hlen
    go_enter Tryz.func79, Tryz.ntmps79
    go_wp2_with fail
    refine (lib_FormatUint x hx64 _ hT.pow).mono ?_
    rintro e w1 ⟨rfl, hb⟩
    have HB := Lib.hid hb
    clear hb
    go_wp2
    go_ret
    exact ⟨⟨_, rfl, ⟨by rw [HN.out], by rw [HN.out]; have := HL.out; omega⟩⟩, HB.out⟩
  · have HN := Lib.hid (show numL 2 x = (if x = 1 then [116, 114, 117, 101] else [102, 97, 108, 115, 101]) from by unfold numL; rw [if_neg (by decide), if_pos rfl])
    by_cases h1 : x = 1
    · subst h1
      go_enter Tryz.func79, Tryz.ntmps79
      go_wp2_with fail
      refine (lib_FormatBool true _).mono ?_
      rintro e w1 ⟨rfl, rfl⟩
      go_wp2
      go_ret
      exact ⟨⟨_, rfl, ⟨by rw [HN.out]; simp, by rw [HN.out]; decide⟩⟩, Below.refl _ _⟩
    · have hne : ((x : Int) == 1) = false := by simp; omega
      have HX := Lib.hid h1
      clear h1
      go_enter Tryz.func79, Tryz.ntmps79
      go_wp2_with fail
      refine (lib_FormatBool false _).mono ?_
      rintro e w1 ⟨rfl, rfl⟩
      go_wp2
      go_ret
      exact ⟨⟨_, rfl, ⟨by rw [HN.out, if_neg HX.out], by rw [HN.out, if_neg HX.out]; decide⟩⟩, Below.refl _ _⟩
  · have hlen := hx_len 15 x (by omega)
    have HN := Lib.hid (show numL 5 x = List.replicate (16 - (hx x).length) 48 ++ hx x from by unfold numL; rw [if_neg (by decide), if_neg (by decide), if_pos rfl])
    obtain ⟨t, ht⟩ : ∃ t : ByteArray, t = ⟨(hx x).toArray⟩ := ⟨_, rfl⟩
    have hR : RdS t (hx x) := ⟨ht, by omega⟩
    have htl := hR.len
    obtain ⟨z, hz⟩ : ∃ z, z = 16 - (hx x).length := ⟨_, rfl⟩
    have hzi : 16 - ((hx x).length : Int) = (z : Int) := by omega
    obtain ⟨u, hu⟩ : ∃ u : ByteArray, u = ⟨(List.replicate z 48).toArray⟩ := ⟨_, rfl⟩
    have hU : RdS u (List.replicate z 48) := ⟨hu, by simp; omega⟩
    have hz1 : t.size = (hx x).length := by rw [ht]; simp [ByteArray.size]
    have hz2 : u.size = z := by rw [hu]; simp [ByteArray.size]
    have hsz : ¬ (u.size + t.size > 9223372036854775807) := by omega
    have hz16 : z ≤ 16 := by omega
    have HA := Lib.hid (hU.app hR (by simp; omega))
    have HZ := Lib.hid hz
    have HT := Lib.hid ht
    have HU := Lib.hid hu
    obtain ⟨c, hc⟩ : ∃ c, (hx x).length = c := ⟨_, rfl⟩
    rw [hc] at htl hzi
    clear hz hz1 hz2 hlen hR hU ht hu hc
    go_enter Tryz.func79, Tryz.ntmps79
    go_wp2_with fail
    refine (lib_FormatHex x hx64 _ hT.deb).mono ?_
    rintro e w1 ⟨rfl, hb⟩
    rw [← HT.out]
    have HB := Lib.hid hb
    clear hb
    go_wp2_with fail
    refine (lib_Zeros z (by omega) _).mono ?_
    rintro e w2 ⟨rfl, hb⟩
    rw [← HU.out]
    replace HB := Lib.hid (HB.out.trans (hb.mono HB.out.size))
    clear hb
    go_wp2
    go_ret
    exact ⟨⟨_, rfl, by rw [HN.out, ← HZ.out]; exact HA.out⟩, HB.out⟩

end Go.Proofs.YtfpidkcdgebnpaaGreatDoor

