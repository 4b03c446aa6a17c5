/-
  WeightOrder, by its walk.
-/
import Derived.Test.YtpjhpcolhcgfeaaWeightLaws
import Derived.BigRegion
set_option linter.unusedVariables false
set_option linter.unusedSimpArgs false
set_option maxRecDepth 1000000
namespace Go.Proofs.Ytpjhpcolhcgfeaa
open Go.RowKit

theorem tot_perm {a b : List Int} (h : a.Perm b) : tot a = tot b := by
  induction h with
  | nil => rfl
  | cons x _ ih => simp [tot, ih]
  | swap x y l => simp [tot]; omega
  | trans _ _ h1 h2 => exact h1.trans h2
theorem tot_neg : ∀ l : List Int, tot (l.map fun x => -x) = -tot l
  | [] => rfl
  | x :: r => by simp only [List.map_cons, tot]; rw [tot_neg r]; omega
theorem snoc_ne {l : List Int} {k : Nat} {m : Int} (h : ∀ j, j < k → atI l j ≠ m) (h1 : atI l k ≠ m) : ∀ j, j < k + 1 → atI l j ≠ m := by
  intro j hj
  rcases Nat.lt_or_ge j k with h2 | h2
  · exact h j h2
  · have : j = k := by omega
    rw [this]; exact h1
def swapI (l : List Int) (a b : Nat) : List Int := (l.set a (atI l b)).set b (atI l a)
theorem swap_tot (l : List Int) (a b : Nat) (ha : a < l.length) (hb : b < l.length) : tot (swapI l a b) = tot l := by
  have hset : ∀ (l : List Int) (k : Nat) (x : Int), k < l.length → tot (l.set k x) = tot l - atI l k + x := by
    intro l
    induction l with
    | nil => intro k x h; simp at h
    | cons y r ih =>
      intro k x h
      cases k with
      | zero => simp [tot, atI]; omega
      | succ k => simp only [List.set_cons_succ, tot]; rw [ih k x (by simpa using h)]; simp [atI]; omega
  unfold swapI
  rw [hset _ b _ (by simpa using hb), hset _ a _ ha]
  by_cases hab : a = b
  · subst hab; simp [atI, List.getD, ha]
  · have : atI (l.set a (atI l b)) b = atI l b := by simp [atI, List.getD, List.getElem?_set_ne hab]
    rw [this]; omega
theorem swap_len (l : List Int) (a b : Nat) : (swapI l a b).length = l.length := by simp [swapI]
theorem swap_in (l : List Int) (a b : Nat) (ha : a < l.length) (hb : b < l.length) (h : ∀ x ∈ l, inR x) : ∀ x ∈ swapI l a b, inR x := by
  have hat : ∀ k, k < l.length → inR (atI l k) := fun k hk => h _ (by simp [atI, List.getD, hk])
  intro x hx
  unfold swapI at hx
  rcases List.mem_or_eq_of_mem_set hx with hx | rfl
  · rcases List.mem_or_eq_of_mem_set hx with hx | rfl
    · exact h x hx
    · exact hat b hb
  · exact hat a ha

theorem order_big (v1 v2 : Value) (l : List Int) (s : List Int) (n : Int) (w : World) (h1 : RdI .i64 w v1 l) (h2 : RdI .u16 w v2 s) (hbig : 300 < l.length ∨ (l.length ≤ 300 ∧ 300 < s.length) ∨ (l.length ≤ 300 ∧ s.length ≤ 300 ∧ n = -9223372036854775808)) :
    Calls Try.prog 6 #[v1, v2, .int .i64 n] w fun e w' => e = .returned (.bool true) ∧ Below w.heap.size w w' := by
  have hlen := h1.len (t := 27) (by kernel_rfl)
  have hlen2 := h2.len (t := 49) (by kernel_rfl)
  rcases hbig with h | ⟨h, h'⟩ | ⟨h, h', rfl⟩
  all_goals
    go_enter Try.func6, Try.ntmps6
    go_wp2_with fail
    refine (law07_alive w).mono ?_
    rintro e w1 ⟨rfl, hb⟩
    have HB := Lib.hid hb
    clear hb
    go_wp2_with fail
    refine (law07_alive _).mono ?_
    rintro e w2 ⟨rfl, hb⟩
    replace HB := Lib.hid (HB.out.trans (hb.mono HB.out.size))
    clear hb
    go_wp2
    go_ret
    exact ⟨rfl, HB.out⟩

set_option maxHeartbeats 4000000 in
theorem order_small (v1 v2 : Value) (l : List Int) (s : List Int) (n : Int) (w : World) (h1 : RdI .i64 w v1 l) (h2 : RdI .u16 w v2 s) (hl : l.length ≤ 300) (hs : s.length ≤ 300) (hn : -9223372036854775808 < n) (hn2 : n ≤ 9223372036854775807) :
    Calls Try.prog 6 #[v1, v2, .int .i64 n] w fun e w' => e = .returned (.bool true) ∧ Below w.heap.size w w' := by
  have hlen := h1.len (t := 27) (by kernel_rfl)
  have hidx := h1.idx (t := 27) (by kernel_rfl) (by kernel_rfl)
  have hlen2 := h2.len (t := 49) (by kernel_rfl)
  have hidx2 := h2.idx (t := 49) (by kernel_rfl) (by kernel_rfl)
  have hin := h1.inR
  have hne : (n == -9223372036854775808) = false := by rw [Bool.eq_false_iff]; intro hh; have := beq_iff_eq.1 hh; omega
  have H1 := Lib.hid h1
  have H2 := Lib.hid h2
  have HN := Lib.hid hn
  clear h1 h2 hn
  go_enter Try.func6, Try.ntmps6
  go_wp2_with fail
  refine (law07_alive w).mono ?_
  rintro e w1 ⟨rfl, hb⟩
  have HB := Lib.hid hb
  clear hb
  go_wp2_with fail
  refine (weight_Sum v1 _ _ (H1.out.later HB.out (Nat.le_refl _))).mono ?_
  rintro e w2 ⟨rfl, hb⟩
  replace HB := Lib.hid (HB.out.trans (hb.mono HB.out.size))
  clear hb
  have hsz : w.heap.size ≤ w2.heap.size := HB.out.size
  have ho0 := ownI_empty w2 w2.heap.size (Nat.le_refl _)
  have hr0 := (H1.out.later HB.out (Nat.le_refl _)).later ((Below.refl w2.heap.size w2).alloc (Nat.le_refl _) (.cells #[] 2)) (Nat.le_refl _)
  have HO := Lib.hid ho0
  have HR := Lib.hid hr0
  clear ho0 hr0
  go_wp2_with (with_reducible refine wplI_append w2.heap.size _ ?hs HO.out v1 ?hx HR.out ?hn ?hbase w2.heap.size w2 ((Below.refl _ _).alloc (Nat.le_refl _) _) (Nat.le_refl _) ?_)
  case hs => rfl
  case hx => rfl
  case hn => simp; omega
  case hbase => simp
  intro v3 w3 ho3 hb3 _
  rw [List.nil_append] at ho3
  have HO3 := Lib.hid ho3
  have HB3 := Lib.hid hb3
  clear HO HR ho3 hb3
  go_wp2
  go_loopw [48] (fun i wr => ∃ (k : Nat) (m : List Int), k ≤ s.length ∧ i = .int .i64 k ∧ m.length = l.length ∧ Hid (tot m = tot l) ∧ Hid (∀ x ∈ m, inR x) ∧ Hid (OwnI wr w2.heap.size v3 m) ∧ Hid (Below w2.heap.size w2 wr)) (fun i _ => s.length - (intOf i).toNat)
  case atStart => exact ⟨0, l, by omega, rfl, rfl, Lib.hid rfl, Lib.hid hin, HO3, HB3⟩
  case round =>
    obtain ⟨k, m, hk, rfl, hml, HS, HI, HO, HC⟩ := hrel
    have hrm := HO.out.rd HI.out (by omega)
    have hlenm := hrm.len (t := 27) (by kernel_rfl)
    rw [hml] at hlenm
    clear hrm
    by_cases hlt : k < s.length
    · have hcel := ((H2.out.later HB.out (Nat.le_refl _)).later HC.out (Nat.le_refl _)).cells k hlt
      have hx := hidx2 k hlt
      obtain ⟨q, hq⟩ : ∃ q : Nat, atI s k = (q : Int) ∧ q ≤ 65535 := by
        have := (H2.out.mem hlt)
        simp [Lit.wf, IntKind.min, IntKind.max, IntKind.signed, IntKind.bits] at this
        exact ⟨(atI s k).toNat, by omega, by omega⟩
      obtain ⟨hq, hq2⟩ := hq
      rw [hq] at hcel
      clear hidx hidx2
      by_cases h0 : ¬ 0 < l.length
      · go_wp2
        go_roundw
        case rel => exact ⟨k + 1, m, by omega, by go_num, hml, HS, HI, HO, HC⟩
        case measure => simp [intOf]; omega
      · have h0' : decide ((0 : Int) < (l.length : Int)) = true := decide_eq_true (by omega)
        have h0'' : ((l.length : Int) == 0) = false := by rw [Bool.eq_false_iff]; intro hh; have := beq_iff_eq.1 hh; omega
        obtain ⟨a, ha⟩ : ∃ a : Nat, (k : Int).tmod (l.length : Int) = (a : Int) ∧ a < l.length := ⟨k % l.length, by rw [Int.tmod_eq_emod_of_nonneg (by omega)]; omega, Nat.mod_lt _ (by omega)⟩
        obtain ⟨b, hb⟩ : ∃ b : Nat, (q : Int).tmod (l.length : Int) = (b : Int) ∧ b < l.length := ⟨q % l.length, by rw [Int.tmod_eq_emod_of_nonneg (by omega)]; omega, Nat.mod_lt _ (by omega)⟩
        obtain ⟨ha, ha2⟩ := ha
        obtain ⟨hb, hb2⟩ := hb
        go_wp2
        go_quiet (fail)
        have HO5 := Lib.hid (HO.out.later (below_drewN (Below.refl wr.heap.size wr) nq) (Nat.le_refl _))
        have HC5 := Lib.hid (below_drewN HC.out nq)
        clear HO HC hcel
        generalize wr.drewN nq = w5 at *
        obtain ⟨g, hbg, hix, hsp⟩ := HO5.out.spot (by omega) (by omega)
        have hia := hix a (by omega)
        have hib := hix b (by omega)
        have hc := fun k hk => (hsp _ m rfl HO5.out k hk)
        have ca := (hc a (by omega)).1
        have cb := (hc b (by omega)).1
        have fa := (hc a (by omega)).2.1
        have fb := (hc b (by omega)).2.1
        have HOa := Lib.hid ((hsp _ m rfl HO5.out a (by omega)).2.2 (atI m b))
        have hd := fun k hk => hsp _ _ (by simp) HOa.out k hk
        have cb2 := (hd b (by omega)).1
        have HOb := Lib.hid ((hd b (by omega)).2.2 (atI m a))
        clear hc hd hix hsp
        go_wp2
        go_region
        go_wp2
        go_roundw
        case rel => exact ⟨k + 1, swapI m a b, by omega, by go_num, by rw [swap_len]; exact hml, Lib.hid (by rw [swap_tot m a b (by omega) (by omega)]; exact HS.out), Lib.hid (swap_in m a b (by omega) (by omega) HI.out), Lib.hid HOb.out.drew, Lib.hid ((HC5.out.setCell (by exact hbg) _).setCell (by exact hbg) _).drew⟩
        case measure => simp [intOf]; omega
    · obtain rfl : k = s.length := by omega
      replace HB := Lib.hid (HB.out.trans (HC.out.mono hsz))
      have ho4 := ownI_one wr wr.heap.size (Nat.le_refl _) n
      have hrm2 := (HO.out.rd HI.out (by omega)).later ((Below.refl wr.heap.size wr).alloc (Nat.le_refl _) (.cells #[.int .i64 n] 2)) (Nat.le_refl _)
      have HO4 := Lib.hid ho4
      have HR4 := Lib.hid hrm2
      have hneg : IntKind.i64.wrap (-n) = -n := by have := HN.out; exact IntWalk.i64_in _ (by omega)
      clear ho4 hrm2 HO HC HO3 HB3 hidx2 hlen2 H2
      go_wp2_with (with_reducible refine wplI_append wr.heap.size _ ?hs HO4.out v3 ?hx HR4.out ?hn ?hbase wr.heap.size wr ((Below.refl _ _).alloc (Nat.le_refl _) _) (Nat.le_refl _) ?_)
      case hs => rfl
      case hx => rfl
      case hn => simp; omega
      case hbase => simp
      intro v4 w4 ho4 hb4 _
      have HO5 := Lib.hid (ho4.alloc (.cells #[.int .i64 (-n)] 2))
      have hr5 := (ownI_one w4 w4.heap.size (Nat.le_refl _) (-n)).rd (by have := HN.out; simp [inR]; omega) (by simp)
      have HR5 := Lib.hid hr5
      have HB5 := Lib.hid (hb4.alloc (by exact hb4.size) (.cells #[.int .i64 (-n)] 2))
      have hsz4 : wr.heap.size ≤ w4.heap.size := hb4.size
      clear ho4 hb4 HO4 HR4 hr5
      go_wp2_with (with_reducible refine wplI_append wr.heap.size _ ?hs HO5.out _ ?hx HR5.out ?hn ?hbase wr.heap.size wr HB5.out (Nat.le_refl _) ?_)
      case hs => rfl
      case hx => rfl
      case hn => simp; omega
      case hbase => simp; omega
      intro v5 w5 ho5 hb5 _
      have hin5 : ∀ x ∈ [n] ++ m ++ [-n], inR x := by
        intro x hx
        have := HN.out
        simp at hx
        rcases hx with rfl | hx | rfl
        · exact ⟨by omega, by omega⟩
        · exact HI.out x hx
        · exact ⟨by omega, by omega⟩
      have HR6 := Lib.hid (ho5.rd hin5 (by simp; omega))
      have ht5 : tot ([n] ++ m ++ [-n]) = tot l := by
        rw [tot_append, tot_append, HS.out]; simp [tot]; omega
      replace HB := Lib.hid (HB.out.trans (hb5.mono HB.out.size))
      have HT5 := Lib.hid ht5
      clear ho5 hb5 HO5 HR5 HB5 hin5 ht5 hneg
      go_wp2_with fail
      refine (weight_Sum v5 _ _ HR6.out).mono ?_
      rintro e w6 ⟨rfl, hb⟩
      rw [HT5.out]
      replace HB := Lib.hid (HB.out.trans (hb.mono HB.out.size))
      clear hb HR6 HT5 HS HI hml hlenm hk hlt
      go_wp2
      go_loopw [16, 102] (fun tv i wr2 => ∃ (k : Nat) (tx : Value), tx = tv ∧ k ≤ l.length ∧ i = .int .i64 k ∧ Hid (∀ j, j < k → atI l j ≠ -9223372036854775808) ∧ Hid (OwnI wr2 w6.heap.size tv ((l.take k).map fun x => -x)) ∧ Hid (Below w6.heap.size w6 wr2)) (fun _ i _ => l.length - (intOf i).toNat)
      case atStart => exact ⟨0, _, rfl, by omega, rfl, Lib.hid (fun j hj => absurd hj (by omega)), Lib.hid (OwnI.nil _ _), Lib.hid (Below.refl _ _)⟩
      case round =>
        obtain ⟨k, tx, rfl, hk, rfl, HM, HO, HC⟩ := hrel
        have hsz6 : w.heap.size ≤ w6.heap.size := HB.out.size
        by_cases hlt : k < l.length
        · have hcel := ((H1.out.later HB.out (Nat.le_refl _)).later HC.out (Nat.le_refl _)).cells k hlt
          have hx := hidx k hlt
          have hki : inR (atI l k) := hin _ (by simp [atI, List.getD, hlt])
          clear hidx
          by_cases hmin : atI l k = -9223372036854775808
          · rw [hmin] at hcel
            go_wp2
            go_ret
            exact ⟨rfl, HB.out.trans (HC.out.mono hsz6)⟩
          · obtain ⟨y, hy⟩ : ∃ y, atI l k = y := ⟨_, rfl⟩
            rw [hy] at hmin hki hcel
            have hney : (y == -9223372036854775808) = false := by rw [Bool.eq_false_iff]; intro hh; have := beq_iff_eq.1 hh; omega
            have hnegy : IntKind.i64.wrap (-y) = -y := by have := hki; unfold inR at this; exact IntWalk.i64_in _ (by omega)
            have HO7 := Lib.hid (HO.out.alloc (.cells #[.int .i64 (-y)] 2))
            have hr7 := (ownI_one wr wr.heap.size (Nat.le_refl _) (-y)).rd (by unfold inR at hki; simp [inR]; omega) (by simp)
            have HR7 := Lib.hid hr7
            have HB7 := Lib.hid (HC.out.alloc (by exact HC.out.size) (.cells #[.int .i64 (-y)] 2))
            have hsz7 : w6.heap.size ≤ wr.heap.size := HC.out.size
            have HY := Lib.hid hy
            have HMIN := Lib.hid hmin
            clear hr7 HO HC hy hki hmin
            go_wp2_with (with_reducible refine wplI_append w6.heap.size _ ?hs HO7.out _ ?hx HR7.out ?hn ?hbase w6.heap.size w6 HB7.out (Nat.le_refl _) ?_)
            case hs => rfl
            case hx => rfl
            case hn => simp; omega
            case hbase => simp; omega
            intro v8 w8 ho8 hb8 _
            have HO8 : Hid (OwnI w8 w6.heap.size v8 ((l.take (k + 1)).map fun x => -x)) := Lib.hid (by
              have : (l.take (k + 1)).map (fun x => -x) = (l.take k).map (fun x => -x) ++ [-y] := by
                rw [List.take_add_one, List.getElem?_eq_getElem hlt, List.map_append]
                have : l[k] = y := by rw [← HY.out]; simp [atI, List.getD, hlt]
                rw [this]; rfl
              rw [this]; exact ho8)
            have HC8 := Lib.hid hb8
            clear ho8 hb8 HO7 HR7 HB7
            go_wp2
            go_roundw
            case rel => exact ⟨k + 1, _, rfl, by omega, by go_num, Lib.hid (snoc_ne HM.out (by rw [HY.out]; exact HMIN.out)), HO8, HC8⟩
            case measure => simp [intOf]; omega
        · obtain rfl : k = l.length := by omega
          rw [List.take_length] at HO
          have hneg : ∀ x ∈ l.map (fun x => -x), inR x := by
            intro x hx
            obtain ⟨y, hy, rfl⟩ := List.mem_map.1 hx
            obtain ⟨j, hj, rfl⟩ := List.getElem_of_mem hy
            have h1 := HM.out j hj
            have h2 := hin _ hy
            simp [atI, List.getD, hj] at h1
            unfold inR at h2 ⊢
            omega
          have HR := Lib.hid (HO.out.rd hneg (by simp; omega))
          have htn : tot (l.map fun x => -x) = -tot l := tot_neg l
          replace HB := Lib.hid (HB.out.trans (HC.out.mono hsz6))
          clear hneg HO HM HC hlt hk hidx hin H1
          go_wp2_with fail
          refine (weight_Sum tx _ _ HR.out).mono ?_
          rintro e w7 ⟨rfl, hb⟩
          rw [htn]
          replace HB := Lib.hid (HB.out.trans (hb.mono HB.out.size))
          clear hb HR htn hlen
          generalize tot l = T at *
          by_cases hT : i64 T
          · rw [wV_self hT, wE_in hT]
            obtain ⟨hT1, hT2⟩ := hT
            by_cases hm : T = -9223372036854775808
            · subst hm
              rw [show wE (-(-9223372036854775808)) = 12 from by decide]
              go_wp2
              go_ret
              exact ⟨rfl, HB.out⟩
            · have hTn : i64 (-T) := ⟨by omega, by omega⟩
              rw [wV_self hTn, wE_in hTn]
              have hb1 : (T != -9223372036854775808) = true := by rw [bne_iff_ne]; exact hm
              have hneg : IntKind.i64.wrap (-T) = -T := IntWalk.i64_in _ hTn
              clear hTn hT1 hT2 hm
              go_wp2
              go_ret
              exact ⟨rfl, HB.out⟩
          · rw [wV_out hT, wE_out hT]
            by_cases hm : T = 9223372036854775808
            · subst hm
              rw [show wE (-9223372036854775808) = 0 from by decide, show wV (-9223372036854775808) = -9223372036854775808 from by decide]
              go_wp2
              go_ret
              exact ⟨rfl, HB.out⟩
            · have hTn : ¬ i64 (-T) := by unfold i64 at hT ⊢; omega
              rw [wE_out hTn]
              go_wp2
              go_ret
              exact ⟨rfl, HB.out⟩

theorem weightOrder_walk (v1 : Value) (l : List Int) (v2 : Value) (s : List Int) (n : Int) (w : World) (h1 : RdI .i64 w v1 l) (h2 : RdI .u16 w v2 s) (hn : i64 n) :
    Calls Try.prog 6 #[v1, v2, .int .i64 n] w fun e w' => e = .returned (.bool true) ∧ Below w.heap.size w w' := by
  obtain ⟨n1, n2⟩ := hn
  by_cases a1 : 300 < l.length
  · exact order_big v1 v2 l s n w h1 h2 (.inl a1)
  · by_cases a2 : 300 < s.length
    · exact order_big v1 v2 l s n w h1 h2 (.inr (.inl ⟨by omega, a2⟩))
    · by_cases a3 : n = -9223372036854775808
      · exact order_big v1 v2 l s n w h1 h2 (.inr (.inr ⟨by omega, by omega, a3⟩))
      · exact order_small v1 v2 l s n w h1 h2 (by omega) (by omega) (by omega) n2

end Go.Proofs.Ytpjhpcolhcgfeaa
