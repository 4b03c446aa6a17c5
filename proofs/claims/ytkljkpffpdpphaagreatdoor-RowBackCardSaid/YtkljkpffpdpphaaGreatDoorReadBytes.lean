/-
  Package cell: bytes read off their digits.
-/
import Derived.Test.YtkljkpffpdpphaaGreatDoorGParse
import Derived.Test.YtkljkpffpdpphaaGreatDoorGHex
import Derived.Shelf.Strings.SlTrimAscii
set_option linter.unusedVariables false
set_option linter.unusedSimpArgs false
set_option maxRecDepth 1000000
namespace Go.Proofs.YtkljkpffpdpphaaGreatDoor
open Go.RowKit Go.Shelf

/-- Digits alone. -/
def allD (l : List UInt8) : Prop := ∀ c ∈ l, ∃ r, r < 16 ∧ c = dig r
/-- The bytes that digits are, two and two. -/
def hexR : List Nat → List UInt8
  | a :: b :: r => UInt8.ofNat (16 * a + b) :: hexR r
  | _ => []
theorem allD_nums {l : List UInt8} (h : allD l) : ∃ rs : List Nat, l = rs.map dig ∧ ∀ r ∈ rs, r < 16 := by
  induction l with
  | nil => exact ⟨[], rfl, by simp⟩
  | cons c t ih =>
    obtain ⟨rs, h1, h2⟩ := ih (fun x hx => h x (by simp [hx]))
    obtain ⟨r, hr, hc⟩ := h c (by simp)
    exact ⟨r :: rs, by rw [hc, h1]; rfl, by intro x hx; rcases List.mem_cons.1 hx with rfl | hx; exact hr; exact h2 x hx⟩

theorem digs_mem (c : UInt8) : digs.contains c = true ↔ ∃ r, r < 16 ∧ c = dig r := by
  constructor
  · intro h
    have h1 : c ∈ digs := by simpa using h
    have h2 : ∀ c ∈ digs, ∃ r, r < 16 ∧ c = dig r := by decide
    exact h2 c h1
  · rintro ⟨r, hr, rfl⟩
    have : ∀ r : Fin 16, digs.contains (dig r.val) = true := by decide
    exact this ⟨r, hr⟩
theorem trim_nil (l : List UInt8) : Lib.trimLeftS l digs = [] ↔ allD l := by
  unfold Lib.trimLeftS allD
  induction l with
  | nil => simp
  | cons a r ih =>
    rw [List.dropWhile_cons]
    by_cases ha : digs.contains a = true
    · rw [if_pos ha, ih]
      constructor
      · intro h c hc
        rcases List.mem_cons.1 hc with rfl | hc
        · exact (digs_mem _).1 ha
        · exact h c hc
      · intro h c hc; exact h c (List.mem_cons_of_mem _ hc)
    · rw [if_neg ha]
      constructor
      · intro h; cases h
      · intro h; exact absurd ((digs_mem a).2 (h a (by simp))) ha

theorem lib_Trim (s : ByteArray) (l : List UInt8) (w : World) (h : RdS s l) :
    Calls Tryz.prog 69 #[.string s, .string ({ data := #[48, 49, 50, 51, 52, 53, 54, 55, 56, 57, 97, 98, 99, 100, 101, 102] } : ByteArray)] w fun e w' => e = .returned (.string ⟨(Lib.trimLeftS l digs).toArray⟩) ∧ Below w.heap.size w w' := by
  have c : Calls Tryz.prog 69 #[.string s, .string ({ data := #[48, 49, 50, 51, 52, 53, 54, 55, 56, 57, 97, 98, 99, 100, 101, 102] } : ByteArray)] w _ := Any.strings_TrimLeft_laid Tryz.laysTrim (by kernel_rfl) s _ w (by decide) (ascii_of_all (by decide))
  rw [h.dl] at c
  exact c

theorem cell_value (r : Nat) (hr : r < 16) (w : World) : Calls Tryz.prog 85 #[.int .u8 ((dig r).toNat : Int)] w fun e w' => e = .returned (.int .u8 (r : Int)) ∧ w' = w := by
  have c : Calls Tryz.prog 107 #[.string ({ data := #[48, 49, 50, 51, 52, 53, 54, 55, 56, 57, 97, 98, 99, 100, 101, 102] } : ByteArray), .int .u8 ((dig r).toNat : Int)] w _ := Any.strings_IndexByte Tryz.laysIndexByte _ _ w
  have e : Lib.indexByte ({ data := #[48, 49, 50, 51, 52, 53, 54, 55, 56, 57, 97, 98, 99, 100, 101, 102] } : ByteArray).data.toList (((dig r).toNat : Int)).toNat.toUInt8 = (r : Int) := by
    have : ∀ r : Fin 16, Lib.indexByte ({ data := #[48, 49, 50, 51, 52, 53, 54, 55, 56, 57, 97, 98, 99, 100, 101, 102] } : ByteArray).data.toList (((dig r.val).toNat : Int)).toNat.toUInt8 = (r.val : Int) := by decide
    exact this ⟨r, hr⟩
  rw [e] at c
  clear e
  go_enter Tryz.func85, Tryz.ntmps85
  go_wp2_with fail
  refine c.mono ?_
  rintro e w1 ⟨rfl, rfl⟩
  clear c
  go_wp2
  go_ret
  exact ⟨rfl, rfl⟩

theorem hexR_len : ∀ (k : Nat) (rs : List Nat), rs.length = 2 * k → (hexR rs).length = k
  | 0, [], _ => rfl
  | k + 1, a :: b :: r, h => by rw [hexR, List.length_cons, hexR_len k r (by simp at h; omega)]
theorem hexR_app : ∀ (k : Nat) (rs : List Nat) (a b : Nat), rs.length = 2 * k → hexR (rs ++ [a, b]) = hexR rs ++ [UInt8.ofNat (16 * a + b)]
  | 0, [], a, b, _ => rfl
  | k + 1, x :: y :: r, a, b, h => by
    rw [List.cons_append, List.cons_append, hexR, hexR, hexR_app k r a b (by simp at h; omega), List.cons_append]

/-- What is read of bytes' digits. -/
noncomputable def bytesV (kind : Int) (l : List UInt8) : Option (List UInt8) × Nat :=
  open Classical in
  if l = [45] then (some [], 0)
  else if l = [] ∨ l.length % 2 = 1 ∨ ¬ allD l then (none, 6)
  else if 512 < l.length then (none, 7)
  else if isOfC kind 0 (hexR (l.map fun c => (digV c.toNat).toNat)) = true then (some (hexR (l.map fun c => (digV c.toNat).toNat)), 0) else (none, 11)
/-- The answer: the cell of these bytes, and no error; or none, and which. -/
def ByV (o : Option (List UInt8) × Nat) (e : Ending) : Prop := match o with
  | (some b, _) => ∃ t : ByteArray, RdS t b ∧ e = .returned (.tuple #[.agg #[.int .u64 0, .string t], .int .i64 0])
  | (none, k) => e = .returned (.tuple #[.agg #[.int .u64 0, .string ⟨#[]⟩], .int .i64 (k : Int)])

theorem nums_digV {rs : List Nat} (h : ∀ r ∈ rs, r < 16) : (rs.map dig).map (fun c => (digV c.toNat).toNat) = rs := by
  rw [List.map_map]
  conv => rhs; rw [← List.map_id rs]
  refine List.map_congr_left fun r hr => ?_
  simp only [Function.comp]
  rw [digV_dig (h r hr)]
  simp

theorem getD_lt {rs : List Nat} (h : ∀ r ∈ rs, r < 16) {i : Nat} (hi : i < rs.length) : rs.getD i 0 < 16 := by
  have : rs.getD i 0 = rs[i] := by simp [List.getD, hi]
  rw [this]; exact h _ (List.getElem_mem _)
theorem at8_map (rs : List Nat) (i : Nat) (hi : i < rs.length) : at8 (rs.map dig) i = ((dig (rs.getD i 0)).toNat : Int) := by
  unfold at8
  simp [List.getD, hi]
theorem next_row (rs : List Nat) (n k : Nat) (hl : rs.length = 2 * n) (hk : k < n) : (hexR (rs.take (2 * k)) ++ List.replicate (n - k) (0 : UInt8)).set k (UInt8.ofNat (16 * rs.getD (2 * k) 0 + rs.getD (2 * k + 1) 0)) = hexR (rs.take (2 * (k + 1))) ++ List.replicate (n - (k + 1)) 0 := by
  have h1 := hexR_len k (rs.take (2 * k)) (by rw [List.length_take]; omega)
  have e : rs.take (2 * (k + 1)) = rs.take (2 * k) ++ [rs.getD (2 * k) 0, rs.getD (2 * k + 1) 0] := by
    have i1 : 2 * k < rs.length := by omega
    have i2 : 2 * k + 1 < rs.length := by omega
    have e1 : rs.take (2 * k + 1 + 1) = rs.take (2 * k + 1) ++ rs[2 * k + 1]?.toList := List.take_add_one
    have e2 : rs.take (2 * k + 1) = rs.take (2 * k) ++ rs[2 * k]?.toList := List.take_add_one
    rw [show 2 * (k + 1) = 2 * k + 1 + 1 from by omega, e1, e2, List.getElem?_eq_getElem i1, List.getElem?_eq_getElem i2, List.append_assoc]
    simp [List.getD, i1, i2]
  rw [e, hexR_app k _ _ _ (by rw [List.length_take]; omega), List.set_append, if_neg (by omega), h1, Nat.sub_self]
  obtain ⟨j, hj⟩ : ∃ j, n - k = j + 1 := ⟨n - k - 1, by omega⟩
  rw [hj, show n - (k + 1) = j from by omega, List.replicate_succ, List.set_cons_zero, List.append_assoc]
  rfl
set_option maxHeartbeats 16000000 in
theorem cell_readBytes (kind : Int) (hk : kind = 3 ∨ kind = 4) (s : ByteArray) (l : List UInt8) (w : World) (h : RdS s l) (hT : Tabs w) :
    Calls Tryz.prog 60 #[.int .i64 kind, .string s] w fun e w' => ByV (bytesV kind l) e ∧ Below w.heap.size w w' := by
  have hlen := h.len
  have hsm := h.small
  have HBL := Lib.hid (tabs_lt hT)
  have hb0 : Below w.heap.size w (w.alloc (.cells #[.int .u64 0, .string ⟨#[]⟩] 45)) := (Below.refl _ _).alloc (Nat.le_refl _) _
  by_cases h45 : l = [45]
  · have hV : bytesV kind l = (some [], 0) := by unfold bytesV; rw [if_pos h45]
    have hd : (s.toList == [45]) = true := by rw [h.toList, h45]; rfl
    have HV := Lib.hid hV
    clear h45 hV
    go_enter Tryz.func60, Tryz.ntmps60
    go_wp2
    refine bodyPost_ret (by simp [results, Tryz.results60, go_sem]; try rfl) rfl ?_
    refine ⟨?_, hb0⟩
    rw [HV.out]
    exact ⟨⟨#[]⟩, empty_rd, rfl⟩
  · have hd : (s.toList == [45]) = false := by rw [h.toList]; simp [h45]
    by_cases hl : l = []
    · have hem : s.toList.isEmpty = true := by rw [h.toList, hl]; rfl
      have HV := Lib.hid (show bytesV kind l = (none, 6) from by unfold bytesV; rw [if_neg h45, if_pos (.inl hl)])
      clear hl h45
      go_enter Tryz.func60, Tryz.ntmps60
      go_wp2
      refine bodyPost_ret (by simp [results, Tryz.results60, go_sem]; try rfl) rfl ?_
      refine ⟨?_, hb0⟩
      rw [HV.out]
      rfl
    · have hem : s.toList.isEmpty = false := by rw [h.toList]; cases l <;> simp_all
      by_cases hodd : l.length % 2 = 1
      · have hro : (l.length : Int) % 2 = 1 := by omega
        have HV := Lib.hid (show bytesV kind l = (none, 6) from by unfold bytesV; rw [if_neg h45, if_pos (.inr (.inl hodd))])
        clear hl h45 hodd
        go_enter Tryz.func60, Tryz.ntmps60
        go_wp2
        refine bodyPost_ret (by simp [results, Tryz.results60, go_sem]; try rfl) rfl ?_
        refine ⟨?_, hb0⟩
        rw [HV.out]
        rfl
      · have hro : (l.length : Int) % 2 = 0 := by omega
        obtain ⟨n, hn⟩ : ∃ n, l.length = 2 * n := ⟨l.length / 2, by omega⟩
        obtain ⟨T, hTT⟩ : ∃ T : ByteArray, T = ⟨(Lib.trimLeftS l digs).toArray⟩ := ⟨_, rfl⟩
        have hTl : T.toList = Lib.trimLeftS l digs := by rw [hTT, Lib.toList_data]
        have HT := Lib.hid hTT
        obtain ⟨N0, q, N2⟩ := new1 w (.cells #[.int .u64 0, .string ⟨#[]⟩] 45)
        obtain ⟨w0, hw0⟩ : ∃ w0, w0 = w.alloc (.cells #[.int .u64 0, .string ⟨#[]⟩] 45) := ⟨_, rfl⟩
        rw [← hw0] at N0 q N2
        have HN0 := Lib.hid N0
        clear hTT hb0 N0
        by_cases had : allD l
        · have htn : T.toList.isEmpty = true := by rw [hTl, (trim_nil l).2 had]; rfl
          by_cases hbig : 512 < l.length
          · have hdb : decide ((l.length : Int) > 512) = true := decide_eq_true (by omega)
            have HV := Lib.hid (show bytesV kind l = (none, 7) from by unfold bytesV; rw [if_neg h45, if_neg (by simp [hl, hodd, had]), if_pos hbig])
            clear hl h45 hodd had hbig hTl hn
            go_enter Tryz.func60, Tryz.ntmps60
            go_wp2_with fail
            rw [← hw0]
            clear hw0
            refine (lib_Trim s l _ h).mono ?_
            rintro e w1 ⟨rfl, hb⟩
            rw [← HT.out]
            replace q := keepB q hb
            have HB := Lib.hid (N2.trans (hb.mono N2.size))
            have hT1 := (hT.later N2).later hb
            clear hb N2

            have c0 := new_cellC (i := 0) q rfl
            have c1 := new_cellC (i := 1) q rfl
            have f0 : w1.frozen? ⟨w.heap.size, 0, none⟩ = false := frozen_of_row _ _ _ _ _ q
            have f1 : w1.frozen? ⟨w.heap.size, 1, none⟩ = false := frozen_of_row _ _ _ _ _ q
            obtain ⟨k0, k1, k2⟩ := two_cells q (.int .u64 0) (.string ⟨#[]⟩)
            go_wp2
            refine bodyPost_ret (by simp [results, Tryz.results60, go_sem, k0, k1, k2]; try rfl) rfl ?_
            refine ⟨?_, (HB.out.setCell (Nat.le_refl _) _).setCell (Nat.le_refl _) _⟩
            rw [HV.out]
            rfl
          · have hdb : decide ((l.length : Int) > 512) = false := decide_eq_false (by omega)
            obtain ⟨rs, hlr, hrs⟩ := allD_nums had
            have HV := Lib.hid (show bytesV kind l = (if isOfC kind 0 (hexR rs) = true then (some (hexR rs), 0) else (none, 11)) from by
              unfold bytesV; rw [if_neg h45, if_neg (by simp [hl, hodd, had]), if_neg hbig]
              rw [hlr, nums_digV hrs])
            have hdv : (l.length : Int) / 2 = (n : Int) := by omega
            have hmk := make_bytes (n : Int) (by omega) (by omega)
            rw [show ((n : Int)).toNat = n from by omega] at hmk
            have HRL := Lib.hid (show rs.length = 2 * n from by rw [← hn, hlr]; simp)
            have HLR := Lib.hid hlr
            have HRS := Lib.hid hrs
            have HN := Lib.hid (show n ≤ 256 from by omega)
            clear hl h45 hodd had hbig hTl hn hlr hrs
            go_enter Tryz.func60, Tryz.ntmps60
            go_wp2_with fail
            rw [← hw0]
            clear hw0
            refine (lib_Trim s l _ h).mono ?_
            rintro e w1 ⟨rfl, hb⟩
            rw [← HT.out]
            replace q := keepB q hb
            have HB := Lib.hid (N2.trans (hb.mono N2.size))
            have hT1 := (hT.later N2).later hb
            clear hb N2

            have HQ := Lib.hid (show w.heap.size + 1 ≤ w1.heap.size from by
              rcases Nat.lt_or_ge w.heap.size w1.heap.size with h' | h'
              · exact h'
              · rw [Array.getElem?_eq_none h'] at q; cases q)
            go_wp2_with fail
            obtain ⟨v, hv⟩ : ∃ v, v = Value.slice (some ⟨w1.heap.size, 0, none⟩) n n := ⟨_, rfl⟩
            have hO : Own (w1.alloc (.cells (cellsB (List.replicate n 0)).toArray 5)) (w.heap.size + 1) v (List.replicate n 0) := by
              rw [hv]
              exact own_of_block (cur := cellsB (List.replicate n 0)) (by have := HB.out.size; have := HQ.out; omega) (heap_alloc_new _ _) (by simp) (Nat.le_refl _) (by unfold maxLen; have := HN.out; omega) (by simp [cellsB]) (by simp [cellsB])
            have hBn : Below w.heap.size w (w1.alloc (.cells (cellsB (List.replicate n 0)).toArray 5)) := HB.out.alloc HB.out.size _
            have hq2 := keepB q ((Below.refl _ w1).alloc (Nat.le_refl _) (.cells (cellsB (List.replicate n 0)).toArray 5))
            have hT2 := hT1.later ((Below.refl _ w1).alloc (Nat.le_refl _) (.cells (cellsB (List.replicate n 0)).toArray 5))
            have hvl : ∀ u, (Builtin.len_ #[91] 3 #[v]).run Tryz.prog u = .ok (.int .i64 (n : Int)) u := by
              have := len_own hO (by simp; have := HN.out; omega)
              simpa using this
            try rw [← hv]
            clear hv
            go_wp2
            go_loopw [36] (fun i wr => ∃ (k : Nat), k ≤ n ∧ i = .int .i64 k ∧ Hid (Own wr (w.heap.size + 1) v (hexR (rs.take (2 * k)) ++ List.replicate (n - k) 0)) ∧ Hid (wr.heap[w.heap.size]? = some (.cells #[.int .u64 0, .string ⟨#[]⟩] 45 (0, 0))) ∧ Hid (Tabs wr) ∧ Hid (Below w.heap.size w wr)) (fun i _ => n - (intOf i).toNat)
            case atStart => exact ⟨0, by omega, rfl, Lib.hid (by simpa [hexR] using hO), Lib.hid hq2, Lib.hid hT2, Lib.hid hBn⟩
            case round =>
              obtain ⟨k, hkn, rfl, HO, HQQ, HTT, HBB⟩ := hrel
              clear hO hBn hq2 hT2 hmk
              by_cases hlt : k < n
              · obtain ⟨a, ha⟩ : ∃ a, a = rs.getD (2 * k) 0 := ⟨_, rfl⟩
                obtain ⟨b, hb⟩ : ∃ b, b = rs.getD (2 * k + 1) 0 := ⟨_, rfl⟩
                have hrl := HRL.out
                have ha16 : a < 16 := by rw [ha]; exact getD_lt HRS.out (by omega)
                have hb16 : b < 16 := by rw [hb]; exact getD_lt HRS.out (by omega)
                have hx1 := h.idx (2 * k) (by rw [HLR.out]; simp; omega)
                have hx2 := h.idx (2 * k + 1) (by rw [HLR.out]; simp; omega)
                rw [show at8 l (2 * k) = ((dig a).toNat : Int) from by rw [ha, HLR.out]; exact at8_map rs (2 * k) (by omega), show ((2 * k : Nat) : Int) = 2 * (k : Int) from by omega] at hx1
                rw [show at8 l (2 * k + 1) = ((dig b).toNat : Int) from by rw [hb, HLR.out]; exact at8_map rs (2 * k + 1) (by omega), show ((2 * k + 1 : Nat) : Int) = 2 * (k : Int) + 1 from by omega] at hx2
                have hcl : (hexR (rs.take (2 * k)) ++ List.replicate (n - k) (0 : UInt8)).length = n := by
                  rw [List.length_append, hexR_len k _ (by rw [List.length_take]; omega)]; simp; omega
                have hrd := HO.out.rd (by rw [hcl]; have := HN.out; omega)
                have hix := hrd.idx k (by rw [hcl]; exact hlt)
                have hold := hrd.cells k (by rw [hcl]; exact hlt)
                obtain ⟨hset, hfr, hbk⟩ := HO.out.set (i := k) (by rw [hcl]; exact hlt) (UInt8.ofNat (16 * a + b))
                have hval : cellB (UInt8.ofNat (16 * a + b)) = .int .u8 (16 * (a : Int) + (b : Int)) := by
                  unfold cellB; congr 1; simp; omega
                rw [hval] at hset
                have hnext : (hexR (rs.take (2 * k)) ++ List.replicate (n - k) (0 : UInt8)).set k (UInt8.ofNat (16 * a + b)) = hexR (rs.take (2 * (k + 1))) ++ List.replicate (n - (k + 1)) 0 := by
                  rw [ha, hb]; exact next_row rs n k hrl hlt
                rw [hnext] at hset
                have hq3 : (wr.setCell (adr v k) (.int .u8 (16 * (a : Int) + (b : Int)))).heap[w.heap.size]? = some (.cells #[.int .u64 0, .string ⟨#[]⟩] 45 (0, 0)) :=
                  (((Below.refl (w.heap.size + 1) wr).setCell hbk _).block _ (by omega)).trans HQQ.out
                have hb3 : Below w.heap.size w (wr.setCell (adr v k) (.int .u8 (16 * (a : Int) + (b : Int)))) := HBB.out.setCell (by omega) _
                have hT3 : Tabs (wr.setCell (adr v k) (.int .u8 (16 * (a : Int) + (b : Int)))) := tabs_set HTT.out (by have := HBL.out; omega) _
                have HS := Lib.hid (And.intro hset (And.intro hq3 (And.intro hT3 hb3)))
                clear hset hnext hval hcl hrd hrl hq3 hb3 hT3 ha hb
                go_wp2_with fail
                refine OrdR.wp_region_ord way_all [(0, false), (1, false), (2, false), (3, false), (4, false), (5, false), (8, false), (9, false), (10, false), (11, false), (12, false), (6, true), (7, false), (13, true), (14, false), (15, false), (16, true)] (by kernel_rfl) rfl (by kernel_rfl) (by kernel_rfl) (fun _ _ _ d _ h => by cases d <;> exact h) ?_
                refine OrdR.ord_still rfl rfl (by kernel_rfl) (fun K hK => ?_)
                go_big_quiet_op
                refine hK _ ?_; clear hK K
                refine OrdR.ord_still rfl rfl (by kernel_rfl) (fun K hK => ?_)
                go_big_quiet_op
                refine hK _ ?_; clear hK K
                refine OrdR.ord_still rfl rfl (by kernel_rfl) (fun K hK => ?_)
                go_big_quiet_op
                refine hK _ ?_; clear hK K
                refine OrdR.ord_still rfl rfl (by kernel_rfl) (fun K hK => ?_)
                go_big_quiet_op
                refine hK _ ?_; clear hK K
                refine OrdR.ord_still rfl rfl (by kernel_rfl) (fun K hK => ?_)
                go_big_quiet_op
                refine hK _ ?_; clear hK K
                refine OrdR.ord_still rfl rfl (by kernel_rfl) (fun K hK => ?_)
                go_big_quiet_op
                refine hK _ ?_; clear hK K
                refine OrdR.ord_still rfl rfl (by kernel_rfl) (fun K hK => ?_)
                go_big_quiet_op
                refine hK _ ?_; clear hK K
                refine OrdR.ord_still rfl rfl (by kernel_rfl) (fun K hK => ?_)
                go_big_quiet_op
                refine hK _ ?_; clear hK K
                refine OrdR.ord_still rfl rfl (by kernel_rfl) (fun K hK => ?_)
                go_big_quiet_op
                refine hK _ ?_; clear hK K
                refine OrdR.ord_still rfl rfl (by kernel_rfl) (fun K hK => ?_)
                go_big_quiet_op
                refine hK _ ?_; clear hK K
                refine OrdR.ord_still rfl rfl (by kernel_rfl) (fun K hK => ?_)
                go_big_quiet_op
                refine hK _ ?_; clear hK K
                refine OrdR.ord_loud rfl (by kernel_rfl) (fun K hK => ?_)
                go_big_op
                refine (cell_value a ha16 _).mono ?_
                rintro e w9 ⟨rfl, rfl⟩
                refine hK _ _ trivial ?_; clear hK K
                go_simp
                refine OrdR.ord_still rfl rfl (by kernel_rfl) (fun K hK => ?_)
                go_big_quiet_op
                refine hK _ ?_; clear hK K
                refine OrdR.ord_loud rfl (by kernel_rfl) (fun K hK => ?_)
                go_big_op
                refine (cell_value b hb16 _).mono ?_
                rintro e w9 ⟨rfl, rfl⟩
                refine hK _ _ trivial ?_; clear hK K
                go_simp
                refine OrdR.ord_still rfl rfl (by kernel_rfl) (fun K hK => ?_)
                go_big_quiet_op
                refine hK _ ?_; clear hK K
                refine OrdR.ord_still rfl rfl (by kernel_rfl) (fun K hK => ?_)
                go_big_quiet_op
                refine hK _ ?_; clear hK K
                refine OrdR.ord_loud rfl (by kernel_rfl) (fun K hK => ?_)
                go_big_op
                refine hK _ _ trivial ?_; clear hK K
                refine OrdR.ord_nil ?_
                go_wp2
                go_roundw
                case rel =>
                  obtain ⟨h1, h2, h3, h4⟩ := HS.out
                  exact ⟨k + 1, by omega, by go_num, Lib.hid h1.drew, Lib.hid h2, Lib.hid h3, Lib.hid h4.drew⟩
                case measure => simp [intOf]; omega
              · obtain rfl : k = n := by omega
                have hrl := HRL.out
                have hO2 := HO.out
                rw [show 2 * k = rs.length from hrl.symm, List.take_length, Nat.sub_self, List.replicate_zero, List.append_nil] at hO2
                have hrd := hO2.rd (by rw [hexR_len k rs hrl]; have := HN.out; omega)
                have hst := hrd.str
                obtain ⟨t, ht⟩ : ∃ t : ByteArray, t = ⟨(hexR rs).toArray⟩ := ⟨_, rfl⟩
                have hRt : RdS t (hexR rs) := ⟨ht, by rw [hexR_len k rs hrl]; have := HN.out; omega⟩
                rw [← ht] at hst
                obtain ⟨M0, M1, M2⟩ := new1 wr (.cells #[.int .u64 0, .string t] 45)
                have hT4 := HTT.out.later M2
                have hq4 := keepB HQQ.out M2
                have hb4 := HBB.out.trans (M2.mono HBB.out.size)
                obtain ⟨w4, hw4⟩ : ∃ w4, w4 = wr.alloc (.cells #[.int .u64 0, .string t] 45) := ⟨_, rfl⟩
                rw [← hw4] at M0 M1 M2 hT4 hq4 hb4
                have d0 := new_cellC (i := 0) M1 rfl
                have d1 := new_cellC (i := 1) M1 rfl
                have hcv : cellV 0 t = .agg #[.int .u64 0, .string t] := rfl
                clear hO2 hrd hrl ht
                go_wp2_with fail
                rw [← hw4]
                clear hw4
                refine (cell_isOf kind (by omega) 0 t (hexR rs) _ hRt hT4).mono ?_
                rintro e w5 ⟨rfl, hb⟩
                have q := keepB hq4 hb
                have m5 := keepB M1 hb
                have HB := Lib.hid (hb4.trans (hb.mono hb4.size))
                clear d0 d1 hq4 hb4 M0 M1 M2 hT4 hb
                have e0 := new_cellC (i := 0) m5 rfl
                have e1 := new_cellC (i := 1) m5 rfl
                have hVV := HV.out
                cases hi : isOfC kind 0 (hexR rs) with
                | true =>
                  have HV2 := Lib.hid (show bytesV kind l = (some (hexR rs), 0) from by rw [hVV, if_pos hi])
                  clear hVV hi
                  have c0 := new_cellC (i := 0) q rfl
                  have c1 := new_cellC (i := 1) q rfl
                  have f0 : w5.frozen? ⟨w.heap.size, 0, none⟩ = false := frozen_of_row _ _ _ _ _ q
                  have f1 : w5.frozen? ⟨w.heap.size, 1, none⟩ = false := frozen_of_row _ _ _ _ _ q
                  obtain ⟨k0, k1, k2⟩ := two_cells q (.int .u64 0) (.string t)
                  go_wp2
                  refine bodyPost_ret (by simp [results, Tryz.results60, go_sem, k0, k1, k2]; try rfl) rfl ?_
                  refine ⟨?_, (HB.out.setCell (Nat.le_refl _) _).setCell (Nat.le_refl _) _⟩
                  rw [HV2.out]
                  exact ⟨t, hRt, rfl⟩
                | false =>
                  have HV2 := Lib.hid (show bytesV kind l = (none, 11) from by rw [hVV, if_neg (by simp [hi])])
                  clear hVV hi
                  have c0 := new_cellC (i := 0) q rfl
                  have c1 := new_cellC (i := 1) q rfl
                  have f0 : w5.frozen? ⟨w.heap.size, 0, none⟩ = false := frozen_of_row _ _ _ _ _ q
                  have f1 : w5.frozen? ⟨w.heap.size, 1, none⟩ = false := frozen_of_row _ _ _ _ _ q
                  obtain ⟨k0, k1, k2⟩ := two_cells q (.int .u64 0) (.string ⟨#[]⟩)
                  go_wp2
                  refine bodyPost_ret (by simp [results, Tryz.results60, go_sem, k0, k1, k2]; try rfl) rfl ?_
                  refine ⟨?_, (HB.out.setCell (Nat.le_refl _) _).setCell (Nat.le_refl _) _⟩
                  rw [HV2.out]
                  rfl
        · have htn : T.toList.isEmpty = false := by
            rw [hTl]
            cases he : Lib.trimLeftS l digs with
            | nil => exact absurd ((trim_nil l).1 he) had
            | cons a r => rfl
          have HV := Lib.hid (show bytesV kind l = (none, 6) from by unfold bytesV; rw [if_neg h45, if_pos (.inr (.inr had))])
          clear hl h45 hodd had hTl hn
          go_enter Tryz.func60, Tryz.ntmps60
          go_wp2_with fail
          rw [← hw0]
          clear hw0
          refine (lib_Trim s l _ h).mono ?_
          rintro e w1 ⟨rfl, hb⟩
          rw [← HT.out]
          replace q := keepB q hb
          have HB := Lib.hid (N2.trans (hb.mono N2.size))
          have hT1 := (hT.later N2).later hb
          clear hb N2

          have c0 := new_cellC (i := 0) q rfl
          have c1 := new_cellC (i := 1) q rfl
          have f0 : w1.frozen? ⟨w.heap.size, 0, none⟩ = false := frozen_of_row _ _ _ _ _ q
          have f1 : w1.frozen? ⟨w.heap.size, 1, none⟩ = false := frozen_of_row _ _ _ _ _ q
          obtain ⟨k0, k1, k2⟩ := two_cells q (.int .u64 0) (.string ⟨#[]⟩)
          go_wp2
          refine bodyPost_ret (by simp [results, Tryz.results60, go_sem, k0, k1, k2]; try rfl) rfl ?_
          refine ⟨?_, (HB.out.setCell (Nat.le_refl _) _).setCell (Nat.le_refl _) _⟩
          rw [HV.out]
          rfl

end Go.Proofs.YtkljkpffpdpphaaGreatDoor
