/-
  The document's own answers for layer 5: the texts between a byte.
-/
import Derived.Test.YtdegeifklchjaaaDoorSchSplit
import Derived.Test.YtdegeifklchjaaaDoorOrdR
import Derived.Test.YtdegeifklchjaaaDoorBlocks
import Derived.BigQuiet
set_option linter.unusedVariables false
set_option linter.unusedSimpArgs false
set_option maxRecDepth 1000000
namespace Go.Proofs.YtdegeifklchjaaaDoor
open Go.RowKit Go.Shelf

theorem cutL_snoc (c x : UInt8) : ∀ l : List UInt8, cutL c (l ++ [x]) = if x = c then cutL c l ++ [[]] else (cutL c l).set ((cutL c l).length - 1) ((cutL c l).getD ((cutL c l).length - 1) [] ++ [x])
  | [] => by
    rw [List.nil_append, cutL, cutL]
    by_cases hx : x = c
    · rw [if_pos hx, if_pos hx]; rfl
    · rw [if_neg hx, if_neg hx]; rfl
  | y :: r => by
    have ih := cutL_snoc c x r
    have hp := cutL_pos c r
    rw [List.cons_append, cutL, ih]
    rw [show cutL c (y :: r) = if y = c then [] :: cutL c r else consHead y (cutL c r) from by rw [cutL]]
    by_cases hy : y = c
    · rw [if_pos hy, if_pos hy]
      by_cases hx : x = c
      · rw [if_pos hx, if_pos hx]; rfl
      · rw [if_neg hx, if_neg hx]
        obtain ⟨n, hn⟩ : ∃ n, (cutL c r).length = n + 1 := ⟨(cutL c r).length - 1, by omega⟩
        rw [List.length_cons, hn]
        simp
    · rw [if_neg hy, if_neg hy]
      cases hc : cutL c r with
      | nil => rw [hc] at hp; simp at hp
      | cons h t =>
        by_cases hx : x = c
        · rw [if_pos hx, if_pos hx]; rfl
        · rw [if_neg hx, if_neg hx]
          cases t with
          | nil => simp [consHead]
          | cons a b => simp [consHead]

theorem OwnT.set {w : World} {base : Nat} {v : Value} {ss : List ByteArray} (h : OwnT w base v ss) {i : Nat} (hi : i < ss.length) (s : ByteArray) :
    OwnT (w.setCell (adr v i) (.string s)) base v (ss.set i s) ∧ w.frozen? (adr v i) = false ∧ base ≤ (adr v i).block := by
  obtain ⟨⟨h0, h2⟩, h3⟩ := h
  rw [List.length_map] at h2 h0
  rcases h2 with ⟨rfl, hn⟩ | ⟨g, cap, cur, rfl, hbg, hg, hn, hm, hs, ht⟩
  · exact absurd hi (by omega)
  · have e : adr (.slice (some ⟨g, 0, none⟩) ss.length cap) i = ⟨g, i, none⟩ := by rw [adr_lit, Nat.zero_add]
    rw [e]
    have hfl : ∀ ss : List ByteArray, (ss.map strV).flatten = ss.map Value.string := fun ss => by
      induction ss with
      | nil => rfl
      | cons a r ih => rw [List.map_cons, List.flatten_cons, ih]; rfl
    have ht' : cur.toList.take (ss.length * 1) = ss.map Value.string := by rw [← hfl]; exact ht
    refine ⟨⟨⟨by rw [hfl]; show _ = _ * 1; simp, .inr ⟨g, cap, _, by rw [List.length_map, List.length_set], hbg, block_setCell hg _, by rw [List.length_map, List.length_set]; exact hn, hm, by simpa using hs, ?_⟩⟩, ?_, ?_⟩, frozen_of_row _ _ _ _ _ hg, hbg⟩
    · rw [hfl, List.length_map, List.length_set, Array.toList_setIfInBounds, List.take_set]
      show (cur.toList.take (ss.length * 1)).set i _ = _
      rw [ht', List.map_set]
    · intro y hy; obtain ⟨c, _, rfl⟩ := List.mem_map.1 hy; rfl
    · intro y hy; obtain ⟨c, _, rfl⟩ := List.mem_map.1 hy
      intro z hz; simp [strV] at hz; rw [hz]; rfl

/-- A string of the call's own: where it lies, and that it may be turned. -/
theorem OwnT.at {w : World} {base : Nat} {v : Value} {ss : List ByteArray} (h : OwnT w base v ss) {i : Nat} (hi : i < ss.length) (hs : ss.length ≤ 140737488351232) :
    ∃ b o, (∀ u, (Instr.indexAt 56 v (.int .i64 (i : Int))).run Tryd.prog u = .ok (.pointer (some ⟨b, o, none⟩)) u) ∧ w.cell? ⟨b, o, none⟩ = some (.string (ss.getD i default)) ∧ w.frozen? ⟨b, o, none⟩ = false ∧ base ≤ b ∧
      ∀ s, OwnT (w.setCell ⟨b, o, none⟩ (.string s)) base v (ss.set i s) := by
  have hrd := h.rd hs
  have hi' : i < (ss.map strV).length := by simpa using hi
  have hx := RdG.idx hrd strOk i hi'
  have hc := RdG.cells hrd i hi' 0 (.string (ss.getD i default)) (by rw [getD_map strV ss i hi default]; rfl)
  obtain ⟨ao, cap, hv, _, _, hp⟩ := RdG.shape hrd
  obtain ⟨b, o, rfl⟩ := hp (by omega)
  have e : adr v (i * strE.n) = ⟨b, o + i, none⟩ := by rw [hv, adr_lit]; show (⟨b, o + i * 1, none⟩ : Addr) = _; rw [Nat.mul_one]
  have e2 : adr v i = ⟨b, o + i, none⟩ := by rw [hv, adr_lit]
  rw [e] at hx
  rw [Nat.add_zero, e] at hc
  have hset := fun s => h.set hi s
  rw [e2] at hset
  exact ⟨b, o + i, hx, hc, (hset ⟨#[]⟩).2.1, (hset ⟨#[]⟩).2.2, fun s => (hset s).1⟩

/-- Strings of lists of bytes. -/
def strL (ls : List (List UInt8)) : List ByteArray := ls.map fun l => ⟨l.toArray⟩
theorem strL_data (ls : List (List UInt8)) : (strL ls).map (·.data.toList) = ls := by
  unfold strL
  rw [List.map_map]
  have : ((fun x : ByteArray => x.data.toList) ∘ fun l : List UInt8 => (⟨l.toArray⟩ : ByteArray)) = id := by funext l; rfl
  rw [this, List.map_id]
theorem strL_length (ls : List (List UInt8)) : (strL ls).length = ls.length := by simp [strL]
theorem ext_one {s : ByteArray} {l : List UInt8} (h : RdS s l) {k : Nat} (hk : k < l.length) : s.extract k (k + 1) = ⟨#[l.getD k 0]⟩ := by
  rw [h.eq]
  apply ByteArray.ext
  apply Array.ext
  · simp; omega
  · intro i h1 h2
    have : i = 0 := by simpa using h2
    subst this
    simp [List.getD, hk]

theorem slice_one {s : ByteArray} {l : List UInt8} (h : RdS s l) {k : Nat} (hk : k < l.length) : ∀ u, (Instr.slice 9 (.string s) (some (.int .i64 (k : Int))) (some (.int .i64 ((k : Int) + 1))) none).run Tryd.prog u = .ok (.string ⟨#[l.getD k 0]⟩) u := by
  intro u
  have hz : s.size = l.length := by rw [h.eq]; simp [ByteArray.size]
  have e := run_slice_string (P := Tryd.prog) (w := u) 9 s .i64 .i64 (k : Int) ((k : Int) + 1) Tryd.underlying9 (by omega) (by omega) (by omega)
  rw [show ((k : Int) + 1).toNat = k + 1 from by omega, show ((k : Nat) : Int).toNat = k from by omega, ext_one h hk] at e
  exact e
theorem only_set (w : World) (b o : Nat) (v : Value) : Only (fun j => j = b) w (w.setCell ⟨b, o, none⟩ v) := Only.setCell (S := fun j => j = b) (Only.refl (fun j => j = b) w) (p := ⟨b, o, none⟩) rfl v
theorem way_only5 (S : Nat → Prop) : OrdR.Way (Only S) := ⟨fun w => Only.refl S w, fun _ _ _ h k => h.trans k⟩
instance inst_only5 (S : Nat → Prop) (w : World) : Nonempty (OrdR.GW (Only S) w) := ⟨⟨w, Only.refl S w⟩⟩
theorem w64_in {x : Int} (h : -9223372036854775808 ≤ x ∧ x ≤ 9223372036854775807) : wrap64 x = x := by unfold wrap64; omega
theorem w64_pred (n : Nat) (h : -9223372036854775808 ≤ (n : Int) ∧ (n : Int) ≤ 9223372036854775807) : IntKind.i64.wrap ((n : Int) + 1 - 1) = (n : Int) := by
  rw [show (n : Int) + 1 - 1 = n from by omega]; exact IntWalk.i64_in _ h

set_option maxHeartbeats 4000000 in
theorem ref_Cut05 (c : UInt8) (s : ByteArray) (l : List UInt8) (w : World) (h : RdS s l) (hl : l.length ≤ 100000) :
    Calls Tryd.prog 45 #[.string s, .int .u8 (c.toNat : Int)] w fun e w' => ∃ v, e = .returned v ∧ OwnT w' w.heap.size v (strL (cutL c l)) ∧ Below w.heap.size w w' := by
  have hlen := h.len
  have hidx := h.idx
  have HS := Lib.hid h
  have hO0 : OwnT (w.alloc (.cells #[.string ⟨#[]⟩] 9)) w.heap.size (.slice (some ⟨w.heap.size, 0, none⟩) 1 1) [⟨#[]⟩] :=
    ⟨⟨rfl, .inr ⟨w.heap.size, 1, _, rfl, Nat.le_refl _, heap_alloc_new w _, by decide, by decide, rfl, rfl⟩⟩, by intro y hy; simp [strV] at hy; rw [hy]; rfl, by intro y hy z hz; simp [strV] at hy; rw [hy] at hz; simp at hz; rw [hz]; rfl⟩
  have HO := Lib.hid hO0
  have HB := Lib.hid ((Below.refl w.heap.size w).alloc (Nat.le_refl _) (.cells #[.string ⟨#[]⟩] 9))
  have hc256 := c.toNat_lt
  clear h hO0
  go_enter Tryd.func45, Tryd.ntmps45
  go_wp2
  go_loopw [5, 6] (fun a i wr => ∃ k : Nat, k ≤ l.length ∧ i = .int .i64 k ∧ Hid (OwnT wr w.heap.size a (strL (cutL c (l.take k)))) ∧ Hid (Below w.heap.size w wr)) (fun _ i _ => l.length - (intOf i).toNat)
  case atStart => exact ⟨0, by omega, rfl, HO, HB⟩
  case round =>
    clear HO HB
    obtain ⟨k, hk, rfl, HO, HB⟩ := hrel
    by_cases hlt : k < l.length
    · have hx := hidx k hlt
      obtain ⟨d, hd⟩ : ∃ d, d = l.getD k 0 := ⟨_, rfl⟩
      have hd9 : at8 l k = (d.toNat : Int) := by rw [hd]; rfl
      rw [hd9] at hx
      have hsn := cutL_snoc c d (l.take k)
      have htk : l.take (k + 1) = l.take k ++ [d] := by rw [take_succD hlt 0, hd]
      rw [← htk] at hsn
      have hcp := cutL_pos c (l.take k)
      have hcle := cutL_le c (l.take k)
      have htl : (l.take k).length = k := by simp; omega
      rw [htl] at hcle
      obtain ⟨L, hL⟩ : ∃ L, L = cutL c (l.take k) := ⟨_, rfl⟩
      rw [← hL] at hsn hcp hcle HO
      have HSN := Lib.hid hsn
      have hwb := HB.out.size
      have hdn := d.toNat_lt
      by_cases hdc : d = c
      · have q : ((d.toNat : Int) == (c.toNat : Int)) = true := by rw [hdc]; simp
        have q2 : (d.toNat == c.toNat) = true := by rw [hdc]; simp
        have HSN2 := Lib.hid (show strL (cutL c (l.take (k + 1))) = strL L ++ [⟨#[]⟩] from by rw [HSN.out, if_pos hdc]; unfold strL; rw [List.map_append]; rfl)
        have HO1 := Lib.hid (HO.out.alloc (.cells #[.string ⟨#[]⟩] 9))
        have HB1 := Lib.hid (HB.out.alloc HB.out.size (.cells #[.string ⟨#[]⟩] 9))
        have hll : (strL L).length = L.length := strL_length L
        clear hd hd9 hsn htk htl hL hdc HSN hidx
        go_wp2_with (with_reducible refine wplT_append w.heap.size _ ?hs HO1.out ⟨wr.heap.size, 0, none⟩ ⟨#[]⟩ ?hx (one_str wr ⟨#[]⟩) ?hn ?hbase w.heap.size w HB1.out (Nat.le_refl _) ?_)
        case hs => rfl
        case hx => rfl
        case hn => rw [hll]; omega
        case hbase => simp; omega
        intro v5 w5 hO5 hB5 hg5
        have HO5 := Lib.hid (show OwnT w5 w.heap.size v5 (strL (cutL c (l.take (k + 1)))) from by rw [HSN2.out]; exact hO5)
        have HB5 := Lib.hid hB5
        clear hO5 hB5 hg5 hll
        go_wp2
        go_roundw
        case rel => exact ⟨k + 1, by omega, by go_num, HO5, HB5⟩
        case measure => simp [intOf]; omega
      · have q : ((d.toNat : Int) == (c.toNat : Int)) = false := by
          rw [beq_eq_false_iff_ne]
          intro e
          exact hdc (UInt8.toNat_inj.mp (by omega))
        obtain ⟨n, hn⟩ : ∃ n, L.length = n + 1 := ⟨L.length - 1, by omega⟩
        have hll : (strL L).length = n + 1 := by rw [strL_length, hn]
        have hrd := HO.out.rd (by omega)
        have hle := hrd.len
        rw [hll, show ((n + 1 : Nat) : Int) = (n : Int) + 1 from by omega] at hle
        obtain ⟨b, o, hi, hcl, hfz, hbb, hset⟩ := HO.out.at (i := n) (by omega) (by omega)
        have hget : (strL L).getD n default = ⟨(L.getD n []).toArray⟩ := by
          unfold strL; simp [List.getD, hn]
        rw [hget] at hcl
        obtain ⟨lst, hlst⟩ : ∃ lst : ByteArray, lst = ⟨(L.getD n []).toArray⟩ := ⟨_, rfl⟩
        rw [← hlst] at hcl
        have hext := slice_one HS.out hlt
        rw [← hd] at hext
        obtain ⟨db, hdb⟩ : ∃ db : ByteArray, db = ⟨#[d]⟩ := ⟨_, rfl⟩
        rw [← hdb] at hext
        have hlz : lst.size ≤ 100000 := by
          have h1 : lst.size = (L.getD n []).length := by rw [hlst]; simp [ByteArray.size]
          have h2 : L.getD n [] ∈ cutL c (l.take k) := by
            rw [← hL, show L.getD n [] = L[n]'(by omega) from by simp [List.getD, hn]]
            exact List.getElem_mem _
          have h3 := cutL_part c _ _ h2
          rw [htl] at h3
          omega
        have hdz : db.size = 1 := by rw [hdb]; rfl
        have p1 : ¬ (9223372036854775807 < lst.size + db.size) := by omega
        have p2 : ¬ (9223372036854775807 < lst.size + 1) := by omega
        have hsz : s.size = l.length := by rw [HS.out.eq]; simp [ByteArray.size]
        have hk0 : (0 : Int) ≤ (k : Int) := by omega
        have hk1 : (k : Int) ≤ (k : Int) + 1 := by omega
        have hk2 : (k : Int) + 1 ≤ (s.size : Int) := by omega
        have b1 : -9223372036854775808 ≤ (n : Int) ∧ (n : Int) ≤ 9223372036854775807 := by omega
        have b2 : -9223372036854775808 ≤ (k : Int) + 1 ∧ (k : Int) + 1 ≤ 9223372036854775807 := by omega
        have e3 : ((k : Int) + 1).toNat = k + 1 := by omega
        have HSN2 := Lib.hid (show strL (cutL c (l.take (k + 1))) = (strL L).set n (lst ++ db) from by
          rw [HSN.out, if_neg hdc, hn, Nat.add_sub_cancel]
          unfold strL
          rw [List.map_set]
          congr 1
          rw [hlst, hdb]
          apply ByteArray.ext
          simp)
        have w1 := w64_pred n b1
        have w0 := IntWalk.i64_in _ b1
        have w00 := w64_in b1
        have w22 := w64_in b2
        have w2 := IntWalk.i64_in _ b2
        clear b1 b2
        have HSET := Lib.hid hset
        clear hd hd9 hsn htk htl hL hdc HSN hidx hn hll hrd hget hlst hdb hset
        go_wp2
        refine OrdR.wp_region_ord (way_only5 (fun j => j = b)) [(0, false), (1, false), (2, false), (3, false), (4, false), (5, false), (6, false), (7, false), (8, false), (10, false), (11, false), (12, false), (13, false), (14, false), (9, true), (15, false), (16, false), (17, true)] (by kernel_rfl) rfl (by kernel_rfl) (by kernel_rfl) (fun _ _ _ d _ h => by cases d <;> exact h) ?_
        refine OrdR.ord_still rfl rfl (by kernel_rfl) (fun K hK => ?_)
        go_big_quiet_op
        refine hK _ ?_; clear hK K
        refine OrdR.ord_still rfl rfl (by kernel_rfl) (fun K hK => ?_)
        go_big_quiet_op
        refine hK _ ?_; clear hK K
        refine OrdR.ord_still rfl rfl (by kernel_rfl) (fun K hK => ?_)
        go_big_quiet_op
        refine hK _ ?_; clear hK K
        refine OrdR.ord_still rfl rfl (by kernel_rfl) (fun K hK => ?_)
        go_big_quiet_op
        refine hK _ ?_; clear hK K
        refine OrdR.ord_still rfl rfl (by kernel_rfl) (fun K hK => ?_)
        go_big_quiet_op
        refine hK _ ?_; clear hK K
        refine OrdR.ord_still rfl rfl (by kernel_rfl) (fun K hK => ?_)
        go_big_quiet_op
        refine hK _ ?_; clear hK K
        refine OrdR.ord_still rfl rfl (by kernel_rfl) (fun K hK => ?_)
        go_big_quiet_op
        refine hK _ ?_; clear hK K
        refine OrdR.ord_still rfl rfl (by kernel_rfl) (fun K hK => ?_)
        go_big_quiet_op
        refine hK _ ?_; clear hK K
        refine OrdR.ord_still rfl rfl (by kernel_rfl) (fun K hK => ?_)
        go_big_quiet_op
        refine hK _ ?_; clear hK K
        refine OrdR.ord_still rfl rfl (by kernel_rfl) (fun K hK => ?_)
        go_big_quiet_op
        refine hK _ ?_; clear hK K
        refine OrdR.ord_still rfl rfl (by kernel_rfl) (fun K hK => ?_)
        go_big_quiet_op
        refine hK _ ?_; clear hK K
        refine OrdR.ord_still rfl rfl (by kernel_rfl) (fun K hK => ?_)
        go_big_quiet_op
        refine hK _ ?_; clear hK K
        refine OrdR.ord_still rfl rfl (by kernel_rfl) (fun K hK => ?_)
        go_big_quiet_op
        refine hK _ ?_; clear hK K
        refine OrdR.ord_still rfl rfl (by kernel_rfl) (fun K hK => ?_)
        go_big_quiet_op
        refine hK _ ?_; clear hK K
        refine OrdR.ord_loud rfl (by kernel_rfl) (fun K hK => ?_)
        go_big_op
        refine hK _ _ (Only.refl _ _) ?_; clear hK K
        refine OrdR.ord_still rfl rfl (by kernel_rfl) (fun K hK => ?_)
        go_big_quiet_op
        refine hK _ ?_; clear hK K
        refine OrdR.ord_still rfl rfl (by kernel_rfl) (fun K hK => ?_)
        go_big_quiet_op
        refine hK _ ?_; clear hK K
        refine OrdR.ord_loud rfl (by kernel_rfl) (fun K hK => ?_)
        go_big_op
        refine hK _ _ (only_set wr.drew b o _) ?_; clear hK K
        refine OrdR.ord_nil ?_
        clear w0 w00 w1 w2 w22 e3
        have HB6 := Lib.hid ((HB.out.setCell (p := ⟨b, o, none⟩) hbb (.string (lst ++ db))).drew)
        have HO6 := Lib.hid (show OwnT (wr.setCell ⟨b, o, none⟩ (.string (lst ++ db))).drew w.heap.size u5 (strL (cutL c (l.take (k + 1)))) from by
          rw [HSN2.out]; exact OwnT.drew (HSET.out (lst ++ db)))
        clear hcl hfz
        go_wp2
        go_roundw
        case rel => exact ⟨k + 1, by omega, by go_num, HO6, HB6⟩
        case measure => simp [intOf]; omega
    · obtain rfl : k = l.length := by omega
      have HO2 := HO.out
      rw [List.take_of_length_le (Nat.le_refl _)] at HO2
      have HO3 := Lib.hid HO2
      clear hlt HO2
      go_wp2
      go_ret
      exact ⟨_, rfl, HO3.out, HB.out⟩

end Go.Proofs.YtdegeifklchjaaaDoor
