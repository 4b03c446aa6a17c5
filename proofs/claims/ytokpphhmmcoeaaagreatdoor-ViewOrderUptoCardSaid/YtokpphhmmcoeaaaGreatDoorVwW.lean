/-
  Package view: its calls.
-/
import Derived.Test.YtokpphhmmcoeaaaGreatDoorVwMem
import Derived.Test.YtokpphhmmcoeaaaGreatDoorGZProgA
import Derived.Test.YtokpphhmmcoeaaaGreatDoorSchWrite
import Derived.Laws.EntriesVeiled
import Derived.MapKept
import Derived.WalkSmall
set_option linter.unusedVariables false
set_option linter.unusedSimpArgs false
set_option maxRecDepth 1000000
namespace Go.Proofs.YtokpphhmmcoeaaaGreatDoor
open Go.RowKit Go.Shelf

theorem enters17 {f : FuncId} {fn : Func} {c : Code} (hf : Tryz.prog.funcs[f]? = some fn) (hname : (fn.name == "runtime.NumGoroutine") = false) (hb : fn.body = some c) (args : Array Value) (u : World) : (callFunc f args).run Tryz.prog u = .ok (.enter f args) u := by
  have h1 : fn.name ≠ "runtime.NumGoroutine" := by simpa using hname
  simp [callFunc, hf, h1, hb, mark]

/-! ## Pairs, copied -/

set_option maxHeartbeats 8000000 in
theorem view_copied (v : Value) (qs : List PairB) (w : World) (hrd : RdP w v qs) (hrow : ∀ k, k < qs.length → (qs.getD k default).1.length ≤ 8) (hfew : qs.length ≤ 1024) :
    Calls Tryz.prog 24 #[v] w fun e w' => ∃ x, e = .returned x ∧ OwnPR w' w.heap.size x qs ∧ Below w.heap.size w w' := by
  have HR8 := Lib.hid hrow
  obtain ⟨us, hu1, hu2, hu3⟩ := id hrd
  have hul : us.length = qs.length := by rw [hu1, List.length_map]
  have CP := Lib.hid (pairs_Clone v us w hu2 hu3 (by omega))
  have HU := Lib.hid (And.intro hu1 hu3)
  obtain ⟨av, nv, cv, rfl⟩ := RdP.lit17 hrd
  clear hrow hu1 hu2 hu3 hrd
  go_enter Tryz.func24, Tryz.ntmps24
  go_wp2_with fail
  refine CP.out.mono ?_
  rintro e w3 ⟨v4, rfl, ho, hb⟩
  have HO5 := Lib.hid (show OwnP w3 w.heap.size v4 qs from ⟨us, HU.out.1, ho, fun t ht => ⟨(HU.out.2 t ht).later hb (Nat.le_refl _), fun g hg => (HU.out.2 t ht).offNew (ho.lt hg).1⟩⟩)
  have HB4 := Lib.hid hb
  obtain ⟨n, hn⟩ : ∃ n, n = qs.length := ⟨_, rfl⟩
  have hlen := (HO5.out.rd (by omega)).len
  rw [← hn] at hlen hfew
  have HNN := Lib.hid hn
  obtain ⟨a4, n4, k4, rfl⟩ := RdP.lit17 (HO5.out.rd (by rw [← hn]; omega))
  obtain ⟨v4, hv4⟩ : ∃ v4 : Value, v4 = .slice a4 n4 k4 := ⟨_, rfl⟩
  rw [← hv4] at HO5 hlen ⊢
  clear ho hb CP HU hul hn hv4
  go_wp2
  go_loopw [9] (fun i wr => ∃ k : Nat, k ≤ n ∧ i = .int .i64 k ∧ Hid (OwnP wr w.heap.size v4 qs) ∧ Hid (Below w.heap.size w wr) ∧ Hid (∀ j, j < k → OwnAt wr w.heap.size v4 qs j)) (fun i _ => n - (intOf i).toNat)
  case atStart => exact ⟨0, by omega, rfl, HO5, HB4, Lib.hid (fun j hj => absurd hj (by omega))⟩
  case round =>
    clear HO5
    obtain ⟨k, hk, rfl, HO, HB, HNw⟩ := hrel
    by_cases hlt : k < n
    · have k1 : k < qs.length := by rw [← HNN.out]; exact hlt
      obtain ⟨b, o, rv, hi, c0, c1, re, hbl⟩ := (HO.out.rd (by rw [← HNN.out]; omega)).get k1
      obtain ⟨g, cap, hv4, hbg, hgl, hrow⟩ := HO.out.row (by omega) (by rw [← HNN.out]; omega)
      have hadr : ∀ q, adr v4 q = ⟨g, q, none⟩ := fun q => by rw [hv4, adr_lit, Nat.zero_add]
      have hog : v4.ownBlock = some g := by rw [hv4]; rfl
      obtain ⟨hix, hst⟩ := hrow k k1
      have heq := (hi wr).symm.trans (hix wr)
      simp only [Result.ok.injEq, Value.pointer.injEq, Option.some.injEq, Addr.mk.injEq, and_true] at heq
      obtain ⟨rfl, rfl⟩ := heq
      obtain ⟨ao, nn, cap', rfl⟩ := re.lit
      have hr8 := HR8.out k k1
      obtain ⟨p, hp⟩ : ∃ p, p = qs.getD k default := ⟨_, rfl⟩
      rw [← hp] at c1 re hst hr8
      have HPk := Lib.hid hp
      rcases p with ⟨r, x⟩
      dsimp only at c1 re hst hr8
      have NN := Lib.hid (new1 wr (.cells #[.slice ao nn cap', .int .i64 x] 75))
      have HBN := Lib.hid (HB.out.trans (NN.out.2.2.mono HB.out.size))
      have CC := Lib.hid (cells_Clone _ r _ (re.later NN.out.2.2 (Nat.le_refl _)) (by omega))
      have HOa := Lib.hid (HO.out.later NN.out.2.2 (Nat.le_refl _))
      have HST := Lib.hid hst
      have HOG := Lib.hid hog
      have hsa := NN.out.1
      have hsr := HB.out.size
      have hsn := HBN.out.size
      have HAd := Lib.hid hadr
      clear hp k1 hi hrow re hst HO hv4 hadr hog
      go_wp2_with fail
      refine CC.out.mono ?_
      rintro e w5 ⟨v5, rfl, ho5, hb5⟩
      obtain ⟨ao5, n5, cap5, rfl⟩ := (ho5.rd (by omega)).lit
      have HO5 := Lib.hid (HOa.out.later hb5 (Nat.le_refl _))
      have HB5 := Lib.hid (HBN.out.trans (hb5.mono (by omega)))
      obtain ⟨⟨x5, hc5⟩, hf5, hs5⟩ := HST.out w5 HO5.out
      obtain ⟨ty, hty⟩ : ∃ c, w5.heap[b]? = some (.cells c 75 (0, 0)) := by
        obtain ⟨ts, _, hG, _⟩ := HO5.out
        exact hG.own_type HOG.out
      have HO6 := Lib.hid (hs5 _ (ho5.rd (by omega)) (ho5.offB (by omega)))
      have HB6 := Lib.hid (HB5.out.setCell (p := ⟨b, k * 2, none⟩) (by show w.heap.size ≤ b; omega) (.slice ao5 n5 cap5))
      have hon : OwnE (w5.setCell ⟨b, k * 2, none⟩ (.slice ao5 n5 cap5)) w.heap.size (.slice ao5 n5 cap5) r :=
        OwnG.stay (ho5.lower (by omega)) (S := fun q => q = b) ((Only.refl (fun q => q = b) w5).setCell (p := ⟨b, k * 2, none⟩) rfl _) fun q hq e => by
          subst e
          exact OwnG.notOf ho5 hty (by decide) hq
      have HN6 := Lib.hid (show ∀ j, j < k + 1 → OwnAt (w5.setCell ⟨b, k * 2, none⟩ (.slice ao5 n5 cap5)) w.heap.size v4 qs j from fun j hj => by
        by_cases e : j = k
        · subst e
          exact ⟨.slice ao5 n5 cap5, by rw [HAd.out]; exact cell_set_same hc5, by rw [← HPk.out]; exact hon⟩
        · have h9 := (((HNw.out j (by omega)).later NN.out.2.2).later hb5)
          exact h9.set (HAd.out _) (by omega) hty _)
      clear ho5 hb5 HST hs5 HOa CC HBN NN c0 c1 HO5 HB5 HAd HPk HNw hty hon HOG
      go_wp2
      go_roundw
      case rel => exact ⟨k + 1, by omega, by go_num, HO6, HB6, HN6⟩
      case measure => simp [intOf]; omega
    · obtain rfl : k = n := by omega
      go_wp2
      go_ret
      exact ⟨_, rfl, ⟨HO.out, fun j hj => HNw.out j (by rw [HNN.out]; exact hj)⟩, HB.out⟩

/-! ## Which kinds there are -/

def kindF (k : Int) : Nat := if k = 0 then 45 else 46
def kindsM : Obj := .map #[{ key := .int .i64 0, val := .func (.func 45) #[] #[], born := 0 }, { key := .int .i64 1, val := .func (.func 46) #[] #[], born := 1 }] 2

theorem put17 {u : World} {m : Nat} {es : Array MapEntry} {ck : Nat} (h : u.heap[m]? = some (.map es ck)) (k : Int) (v : Value) (hf : Instr.findNow (.int .i64) (.int .i64 k) es.toList 0 = some none) :
    (Instr.mapUpdate 61 (.map (some m)) (.int .i64 k) v).run Tryz.prog u = .ok () { u with heap := u.heap.setIfInBounds m (.map (es.push ⟨.int .i64 k, v, ck⟩) (ck + 1)) } := by
  simp [Instr.mapUpdate, run_underlying Tryz.underlying61, MapKept.run_getObj_map h, MapKept.run_checkKey Tryz.underlying3 (k := .int .i64 k) (by simp [MapKept.IsKey]), MapKept.run_findKey Tryz.underlying3 hf, MapKept.run_setObj_map _ h, Result.andThen]
theorem look17 {u : World} {m : Nat} {es : Array MapEntry} {ck : Nat} (h : u.heap[m]? = some (.map es ck)) (k : Int) {j : Nat} {v : Value} (hf : Instr.findNow (.int .i64) (.int .i64 k) es.toList 0 = some (some (j, v))) :
    (Instr.lookup 61 (.map (some m)) (.int .i64 k) true).run Tryz.prog u = .ok (.tuple #[v, .bool true]) u := by
  simp [Instr.lookup, run_underlying Tryz.underlying61, MapKept.run_getObj_map h, MapKept.run_checkKey Tryz.underlying3 (k := .int .i64 k) (by simp [MapKept.IsKey]), MapKept.run_findKey Tryz.underlying3 hf, Result.andThen]
theorem zero17 (u : World) : (zeroValue 59).run Tryz.prog u = .ok .nilFunc u := by kernel_rfl
theorem miss17 {u : World} {m : Nat} {es : Array MapEntry} {ck : Nat} (h : u.heap[m]? = some (.map es ck)) (k : Int) (hf : Instr.findNow (.int .i64) (.int .i64 k) es.toList 0 = some none) :
    (Instr.lookup 61 (.map (some m)) (.int .i64 k) true).run Tryz.prog u = .ok (.tuple #[.nilFunc, .bool false]) u := by
  simp [Instr.lookup, run_underlying Tryz.underlying61, MapKept.run_getObj_map h, MapKept.run_checkKey Tryz.underlying3 (k := .int .i64 k) (by simp [MapKept.IsKey]), MapKept.run_findKey Tryz.underlying3 hf, zero17, Result.andThen]

theorem kinds_look {u : World} {m : Nat} (h : u.heap[m]? = some kindsM) (k : Int) (hk : k = 0 ∨ k = 1) :
    (Instr.lookup 61 (.map (some m)) (.int .i64 k) true).run Tryz.prog u = .ok (.tuple #[.func (.func (kindF k)) #[] #[], .bool true]) u := by
  rcases hk with rfl | rfl
  · exact look17 h 0 rfl
  · exact look17 h 1 rfl
theorem kinds_miss {u : World} {m : Nat} (h : u.heap[m]? = some kindsM) (k : Int) (h0 : k ≠ 0) (h1 : k ≠ 1) :
    (Instr.lookup 61 (.map (some m)) (.int .i64 k) true).run Tryz.prog u = .ok (.tuple #[.nilFunc, .bool false]) u := by
  refine miss17 h k ?_
  have e0 : (k == 0) = false := by simpa using h0
  have e1 : (k == 1) = false := by simpa using h1
  simp [Instr.findNow, Instr.sameNow, e0, e1]

theorem view_kinds (w : World) :
    Calls Tryz.prog 22 #[] w fun e w' => ∃ m, e = .returned (.map (some m)) ∧ w'.heap[m]? = some kindsM ∧ Below w.heap.size w w' := by
  have hmm := @run_makeMap Tryz.prog
  obtain ⟨N0, N1, N2⟩ := new1 w (.map #[] 0)
  have p0 := put17 N1 0 (.func (.func 45) #[] #[]) rfl
  obtain ⟨w1, hw1⟩ : ∃ w1, w1 = { w.alloc (.map #[] 0) with heap := (w.alloc (.map #[] 0)).heap.setIfInBounds w.heap.size (.map ((#[] : Array MapEntry).push ({ key := .int .i64 0, val := .func (.func 45) #[] #[], born := 0 } : MapEntry)) (0 + 1)) } := ⟨_, rfl⟩
  rw [← hw1] at p0
  have h1 : w1.heap[w.heap.size]? = some (.map #[⟨.int .i64 0, .func (.func 45) #[] #[], 0⟩] 1) := by
    rw [hw1, Array.getElem?_setIfInBounds_self_of_lt (by omega)]
    rfl
  have p1 := put17 h1 1 (.func (.func 46) #[] #[]) rfl
  obtain ⟨w2, hw2⟩ : ∃ w2, w2 = { w1 with heap := w1.heap.setIfInBounds w.heap.size (.map ((#[⟨.int .i64 0, .func (.func 45) #[] #[], 0⟩] : Array MapEntry).push ({ key := .int .i64 1, val := .func (.func 46) #[] #[], born := 1 } : MapEntry)) (1 + 1)) } := ⟨_, rfl⟩
  rw [← hw2] at p1
  have hs1 : w1.heap.size = (w.alloc (.map #[] 0)).heap.size := by rw [hw1]; simp
  have h2 : w2.heap[w.heap.size]? = some kindsM := by
    rw [hw2, Array.getElem?_setIfInBounds_self_of_lt (by omega)]
    rfl
  have hs2 : w2.heap.size = w1.heap.size := by rw [hw2]; simp
  have hb : Below w.heap.size w w2 := by
    refine ⟨by rw [hw2, hw1]; exact N2.os, by rw [hw2, hw1]; exact N2.tape, by rw [hw2, hw1]; exact N2.output, by omega, fun j hj => ?_⟩
    rw [hw2, Array.getElem?_setIfInBounds_ne (by omega), hw1, Array.getElem?_setIfInBounds_ne (by omega)]
    exact N2.block j hj
  have H := Lib.hid (And.intro h2 hb)
  clear N0 N1 N2 hw1 h1 hw2 hs1 h2 hs2 hb
  go_enter Tryz.func22, Tryz.ntmps22
  go_wp2
  go_ret
  exact ⟨_, rfl, H.out⟩

/-! ## Whether it may go on -/

set_option maxHeartbeats 4000000 in
theorem view_leads {w : World} {N g : Nat} {cs : List ColB} {qs : List PairB} {c : CurB} {n : Int} {Q : Nat → Prop} (hV : Vw 65 w N g cs qs c n Q) (d : CurB) :
    Calls Tryz.prog 23 #[.pointer (some ⟨g, 0, none⟩), .agg #[.int .i64 d.1, .int .i64 d.2.1, .int .u32 d.2.2]] w fun e w' => e = .returned (.int .i64 (leE c d : Nat)) ∧ Below w.heap.size w w' := by
  obtain ⟨sv, vv, hB, hS, hP⟩ := hV.box
  obtain ⟨_, N1, N2⟩ := new1 w (.cells #[.int .i64 d.1, .int .i64 d.2.1, .int .u32 d.2.2] 30)
  obtain ⟨c0, c1, c2, c3, c4, c5⟩ := (hB.later N2).cells
  have d0 := cell_of_row _ _ 0 _ _ _ N1
  have d1 := cell_of_row _ _ 1 _ _ _ N1
  have d2 := cell_of_row _ _ 2 _ _ _ N1
  simp at d0 d1 d2
  have HB := Lib.hid N2
  clear hV hB hS hP N1 N2
  rcases d with ⟨x, y, z⟩
  rcases c with ⟨cx, cy, cz⟩
  unfold leE
  dsimp only at *
  by_cases h1 : z = cz
  · have q1 : (z != cz) = false := by rw [h1]; simp
    rw [if_neg (fun k => k h1)]
    clear h1
    by_cases h2 : x < cx
    · have q2 : decide (x < cx) = true := decide_eq_true h2
      rw [if_pos (.inl h2)]
      clear h2
      go_enter Tryz.func23, Tryz.ntmps23
      go_wp2
      go_quiet (fail)
      go_wp2
      go_quiet (fail)
      go_wp2
      go_ret
      exact ⟨rfl, drewB17 (drewB17 HB.out _) _⟩
    · have q2 : decide (x < cx) = false := decide_eq_false h2
      by_cases h3 : y < cy
      · have q3 : decide (y < cy) = true := decide_eq_true h3
        rw [if_pos (.inr h3)]
        clear h2 h3
        go_enter Tryz.func23, Tryz.ntmps23
        go_wp2
        go_quiet (fail)
        go_wp2
        go_quiet (fail)
        go_wp2
        go_ret
        exact ⟨rfl, drewB17 (drewB17 HB.out _) _⟩
      · have q3 : decide (y < cy) = false := decide_eq_false h3
        rw [if_neg (fun k => k.elim h2 h3)]
        clear h2 h3
        go_enter Tryz.func23, Tryz.ntmps23
        go_wp2
        go_quiet (fail)
        go_wp2
        go_quiet (fail)
        go_wp2
        go_ret
        exact ⟨rfl, drewB17 (drewB17 HB.out _) _⟩
  · have q1 : (z != cz) = true := by rw [bne_iff_ne]; exact h1
    rw [if_pos h1]
    clear h1
    go_enter Tryz.func23, Tryz.ntmps23
    go_wp2
    go_quiet (fail)
    go_wp2
    go_ret
    exact ⟨rfl, drewB17 HB.out _⟩

/-! ## What a kind does -/

def BcO (w : World) (cs : List ColB) (qs : List PairB) (m : MsgB) (e : Ending) (w' : World) : Prop :=
  ∃ v, e = .returned (.tuple #[v, .int .i64 (becE cs qs m : Nat)]) ∧ NewP w' w.heap.size v (if becE cs qs m = 0 then tkS cs qs m else []) ∧ Below w.heap.size w w'

set_option maxHeartbeats 4000000 in
theorem view_change {w : World} {N g : Nat} {cs : List ColB} {qs : List PairB} {c : CurB} {n : Int} {Q : Nat → Prop} (hV : Vw 65 w N g cs qs c n Q) (pv : Value) (m : MsgB) (hk : m.1 = 0) (hp : RdP w pv m.2.1) (hm : MsO m) (hC : CS cs) (hT : Tabs w) :
    Calls Tryz.prog 45 #[.pointer (some ⟨g, 0, none⟩), pv] w (BcO w cs qs m) := by
  obtain ⟨sv, vv, hB, hS, hP⟩ := hV.box
  obtain ⟨c0, c1, c2, c3, c4, c5⟩ := hB.cells
  have hbd : Below w.heap.size w w.drew := (Below.refl _ _).drew
  obtain ⟨c0, c1, c2, c3, c4, c5⟩ := hB.cells
  have SM := Lib.hid (zset_SumN sv vv pv cs qs m.2.1 w.drew (RdG.later hS.1 colOk hbd (Nat.le_refl _)) (hP.rd.later hbd (Nat.le_refl _)) (hp.later hbd (Nat.le_refl _)) hC hV.set.1 hm (hT.later hbd))
  obtain ⟨ac, nc, kc, rfl⟩ := RdC.lit17 hS.1
  obtain ⟨av, nv, kv, rfl⟩ := RdP.lit17 hP.rd
  obtain ⟨ap, np, kp, rfl⟩ := RdP.lit17 hp
  have HE := Lib.hid (show becE cs qs m = sumE cs qs m.2.1 from if_pos hk)
  have HS := Lib.hid (show (if becE cs qs m = 0 then tkS cs qs m else []) = sumO cs qs m.2.1 from by
    rw [HE.out]
    unfold tkS
    rw [if_pos hk]
    by_cases h0 : sumE cs qs m.2.1 = 0
    · rw [if_pos h0]
    · rw [if_neg h0]; unfold sumO; rw [if_neg h0])
  unfold BcO
  rw [HS.out, HE.out]
  clear hV hB hS hP hk hp hT hbd HE HS
  go_enter Tryz.func45, Tryz.ntmps45
  go_wp2_with fail
  go_region_with (go_at_call 65; refine SM.out.mono ?_; rintro e w3 ⟨v, rfl, ho, hb⟩)
  all_goals
    have HH := Lib.hid (And.intro ho ((Below.refl w.heap.size w).drew.trans hb))
    clear ho hb SM
    go_wp2
    go_ret2
    exact ⟨_, rfl, HH.out⟩

set_option maxHeartbeats 4000000 in
theorem view_reset {w : World} {N g : Nat} {cs : List ColB} {qs : List PairB} {c : CurB} {n : Int} {Q : Nat → Prop} (hV : Vw 65 w N g cs qs c n Q) (pv : Value) (m : MsgB) (hk : m.1 = 1) (hp : RdP w pv m.2.1) (hm : MsO m) (hC : CS cs) (hT : Tabs w) :
    Calls Tryz.prog 46 #[.pointer (some ⟨g, 0, none⟩), pv] w (BcO w cs qs m) := by
  obtain ⟨sv, vv, hB, hS, hP⟩ := hV.box
  obtain ⟨c0, c1, c2, c3, c4, c5⟩ := hB.cells
  have CK := Lib.hid (zset_Check sv pv cs m.2.1 w hS.1 hp hC hm hT)
  have HP := Lib.hid hp
  obtain ⟨ac, nc, kc, rfl⟩ := RdC.lit17 hS.1
  obtain ⟨ap, np, kp, rfl⟩ := RdP.lit17 hp
  have HE := Lib.hid (show becE cs qs m = chkZ cs m.2.1 from if_neg (by omega))
  have HS := Lib.hid (show tkS cs qs m = m.2.1 from if_neg (by omega))
  have HR := Lib.hid (fun h : chkZ cs m.2.1 = 0 => show (∀ k, k < m.2.1.length → (m.2.1.getD k default).1.length ≤ 8) ∧ m.2.1.length ≤ 1024 from ⟨zs_rows ⟨hm, h⟩, Zs.few ⟨hm, h⟩⟩)
  unfold BcO
  rw [HE.out]
  obtain ⟨E, hE⟩ : ∃ E, E = chkZ cs m.2.1 := ⟨_, rfl⟩
  rw [← hE] at CK HR ⊢
  clear hV hB hS hP hk hp hT hE HE
  by_cases h0 : E = 0
  · obtain ⟨hr, hf⟩ := HR.out h0
    have CPY := Lib.hid (fun wz (hz : Below w.heap.size w wz) => view_copied (.slice ap np kp) m.2.1 wz (HP.out.later hz (Nat.le_refl _)) hr hf)
    rw [if_pos h0, HS.out]
    subst h0
    go_enter Tryz.func46, Tryz.ntmps46
    go_wp2_with fail
    refine CK.out.mono ?_
    rintro e w1 ⟨rfl, hb⟩
    have HB1 := Lib.hid hb
    have CP := Lib.hid (CPY.out w1 hb)
    clear hb CK CPY c0 c1 c2 c3 c4 c5
    go_wp2_with fail
    refine CP.out.mono ?_
    rintro e w2 ⟨x, rfl, ho, hb⟩
    obtain ⟨ax, nx, kx, rfl⟩ := RdP.lit17 (ho.1.rd (by omega))
    have HN := Lib.hid (ho.new (by omega))
    have HB2 := Lib.hid (HB1.out.trans (hb.mono HB1.out.size))
    clear ho hb CP
    go_wp2
    go_ret2
    exact ⟨_, rfl, HN.out.lower HB1.out.size, HB2.out⟩
  · have q : ((E : Int) != 0) = true := by rw [bne_iff_ne]; omega
    rw [if_neg h0]
    clear h0
    go_enter Tryz.func46, Tryz.ntmps46
    go_wp2_with fail
    refine CK.out.mono ?_
    rintro e w1 ⟨rfl, hb⟩
    have HB1 := Lib.hid hb
    clear hb CK c0 c1 c2 c3 c4 c5
    go_wp2
    go_ret2
    exact ⟨_, rfl, NewP.nil _ _, HB1.out⟩

theorem view_become {w : World} {N g : Nat} {cs : List ColB} {qs : List PairB} {c : CurB} {n : Int} {Q : Nat → Prop} (hV : Vw 65 w N g cs qs c n Q) (pv : Value) (m : MsgB) (hk : m.1 = 0 ∨ m.1 = 1) (hp : RdP w pv m.2.1) (hm : MsO m) (hC : CS cs) (hT : Tabs w) :
    Calls Tryz.prog (kindF m.1) #[.pointer (some ⟨g, 0, none⟩), pv] w (BcO w cs qs m) := by
  rcases hk with hk | hk
  · unfold kindF; rw [if_pos hk]; exact view_change hV pv m hk hp hm hC hT
  · unfold kindF; rw [if_neg (by omega)]; exact view_reset hV pv m hk hp hm hC hT
theorem enters_kindF (k : Int) (args : Array Value) (u : World) : (callFunc (kindF k) args).run Tryz.prog u = .ok (.enter (kindF k) args) u := by
  unfold kindF
  split
  · exact enters17 Tryz.func45 (by kernel_rfl) rfl args u
  · exact enters17 Tryz.func46 (by kernel_rfl) rfl args u

theorem view_Take_nil (mv : Value) (w : World) : Calls Tryz.prog 8 #[.pointer none, .agg #[.int .i64 0, .slice none 0 0, .int .i64 0, .int .i64 0, .int .u32 0]] w fun e w' => e = .returned (.int .i64 1) ∧ Below w.heap.size w w' := by
  go_enter Tryz.func8, Tryz.ntmps8
  go_wp2
  go_ret
  exact ⟨rfl, (Below.refl _ _).alloc (Nat.le_refl _) _⟩

/-! ## A view, made -/

set_option maxHeartbeats 4000000 in
theorem view_New (v : Value) (cs : List ColB) (Q : Nat → Prop) (w : World) (hR : RdC w v cs) (hC : CS cs) (hQ : ∀ j, Q j → j < w.heap.size) (hT : Tabs w) :
    Calls Tryz.prog 14 #[v] w (NvO 65 w cs Q) := by
  have CP := Lib.hid (schema_Print v cs w hR hC hT)
  obtain ⟨ac, nc, cc, rfl⟩ := RdC.lit17 hR
  have HR := Lib.hid hR
  have HQ := Lib.hid hQ
  have HZ := Lib.hid (fun h : errS (colsL cs) = 0 => show cs.length ≤ 8 from by have := ((errS_iffR (colsL cs)).1 h).1.2; rw [colsL_length] at this; exact this)
  unfold NvO
  have HP := Lib.hid (show prt cs = ((Crc.sum (wrS (colsL cs)) : Nat) : Int) from rfl)
  obtain ⟨E, hE⟩ : ∃ E, E = errS (colsL cs) := ⟨_, rfl⟩
  rw [← hE] at CP HZ ⊢
  have HEd := Lib.hid hE
  obtain ⟨pr, hpr⟩ : ∃ pr, pr = Crc.sum (wrS (colsL cs)) := ⟨_, rfl⟩
  rw [← hpr] at CP HP
  clear hR hE hQ hpr hT
  by_cases h0 : E = 0
  · subst h0
    rw [if_pos rfl] at CP
    have hl := HZ.out rfl
    obtain ⟨px, hpx⟩ : ∃ px : Int, px = (pr : Int) := ⟨_, rfl⟩
    rw [← hpx] at CP HP
    clear hpx
    go_enter Tryz.func14, Tryz.ntmps14
    go_wp2_with fail
    refine CP.out.mono ?_
    rintro e w1 ⟨rfl, hb⟩
    have HB1 := Lib.hid hb
    have CL := Lib.hid (cols_Clone (.slice ac nc cc) cs w1 (HR.out.later hb (Nat.le_refl _)) (by omega))
    clear hb CP
    go_wp2_with fail
    refine CL.out.mono ?_
    rintro e w2 ⟨cv, rfl, hc, hb⟩
    obtain ⟨a2, n2, c2, rfl⟩ := RdC.lit17 (hc.rd (by omega))
    have HC2 := Lib.hid hc
    have HB2 := Lib.hid (HB1.out.trans (hb.mono HB1.out.size))
    clear hc hb CL
    go_wp2
    go_ret2
    refine ⟨_, rfl, HB2.out.alloc HB2.out.size _, .inr ⟨by first | trivial | rfl, _, rfl, HB2.out.size, ?_⟩⟩
    rw [HP.out]
    exact view_made HEd.out.symm HB2.out (OwnG.off HC2.out (by rw [List.length_map]; omega) (fun j hj hq => by have := HQ.out j hq; have := HB1.out.size; omega)) HQ.out
  · rw [if_neg h0] at CP
    have q : ((E : Int) != 0) = true := by rw [bne_iff_ne]; omega
    have HN := Lib.hid h0
    clear h0
    go_enter Tryz.func14, Tryz.ntmps14
    go_wp2_with fail
    refine CP.out.mono ?_
    rintro e w1 ⟨rfl, hb⟩
    have HB1 := Lib.hid hb
    clear hb CP
    go_wp2
    go_ret2
    exact ⟨_, rfl, HB1.out, .inl ⟨HN.out, rfl⟩⟩

/-! ## What it tells -/

set_option maxHeartbeats 4000000 in
theorem view_Pairs {w : World} {N g : Nat} {cs : List ColB} {qs : List PairB} {c : CurB} {n : Int} {Q : Nat → Prop} (hV : Vw 65 w N g cs qs c n Q) :
    Calls Tryz.prog 9 #[.pointer (some ⟨g, 0, none⟩)] w fun e w' => ∃ x, e = .returned x ∧ OwnPR w' w.heap.size x qs ∧ Below w.heap.size w w' := by
  obtain ⟨sv, vv, hB, hS, hP⟩ := hV.box
  obtain ⟨c0, c1, c2, c3, c4, c5⟩ := hB.cells
  have CP := Lib.hid (view_copied vv qs w hP.rd hV.rows hV.set.few)
  have hfew := hV.set.few
  obtain ⟨av, nv, cv, rfl⟩ := RdP.lit17 hP.rd
  clear hV hB hS hP
  go_enter Tryz.func9, Tryz.ntmps9
  go_wp2_with fail
  refine CP.out.mono ?_
  rintro e w3 ⟨v4, rfl, ho, hb⟩
  have HH := Lib.hid (And.intro ho hb)
  obtain ⟨a4, n4, k4, rfl⟩ := RdP.lit17 (ho.1.rd (by omega))
  clear ho hb CP c0 c1 c2 c3 c4 c5
  go_wp2
  go_ret
  exact ⟨_, rfl, HH.out⟩

theorem view_Pairs_nil (w : World) : Calls Tryz.prog 9 #[.pointer none] w fun e w' => e = .returned (.slice none 0 0) ∧ w = w' := by
  go_enter Tryz.func9, Tryz.ntmps9
  go_wp2
  go_ret
  exact ⟨rfl, rfl⟩

theorem three_cells {w : World} {g : Nat} {x y z : Value} {T : TypeId} (h : w.heap[g]? = some (.cells #[x, y, z] T (0, 0))) : w.cell? ⟨g, 0, none⟩ = some x ∧ w.cell? ⟨g, 1, none⟩ = some y ∧ w.cell? ⟨g, 2, none⟩ = some z :=
  ⟨cell_of_row _ _ 0 _ _ _ h, cell_of_row _ _ 1 _ _ _ h, cell_of_row _ _ 2 _ _ _ h⟩

set_option maxHeartbeats 4000000 in
theorem view_Cursor {w : World} {N g : Nat} {cs : List ColB} {qs : List PairB} {c : CurB} {n : Int} {Q : Nat → Prop} (hV : Vw 65 w N g cs qs c n Q) :
    Calls Tryz.prog 10 #[.pointer (some ⟨g, 0, none⟩)] w fun e w' => e = .returned (.agg #[.int .i64 c.1, .int .i64 c.2.1, .int .u32 c.2.2]) ∧ Below w.heap.size w w' := by
  obtain ⟨sv, vv, hB, hS, hP⟩ := hV.box
  obtain ⟨_, N1, N2⟩ := new1 w (.cells #[.int .i64 0, .int .i64 0, .int .u32 0] 30)
  obtain ⟨c0, c1, c2, c3, c4, c5⟩ := (hB.later N2).cells
  have f0 := fun i => frozen_of_row _ w.heap.size i _ _ N1
  have HB := Lib.hid N2
  obtain ⟨_, M1, M2⟩ := new1 w (.cells #[.int .i64 c.1, .int .i64 c.2.1, .int .u32 c.2.2] 30)
  have HC := Lib.hid (three_cells M1)
  have HM := Lib.hid M2
  clear hV hB hS hP N1 N2 M1 M2
  go_enter Tryz.func10, Tryz.ntmps10
  go_wp2
  obtain ⟨e0, e1, e2⟩ := HC.out
  refine bodyPost_ret (by simp [results, Tryz.results10, go_sem, e0, e1, e2]; try rfl) rfl ?_
  exact ⟨rfl, HM.out⟩

theorem view_Cursor_nil (w : World) : Calls Tryz.prog 10 #[.pointer none] w fun e w' => e = .returned (.agg #[.int .i64 0, .int .i64 0, .int .u32 0]) ∧ Below w.heap.size w w' := by
  obtain ⟨_, N1, N2⟩ := new1 w (.cells #[.int .i64 0, .int .i64 0, .int .u32 0] 30)
  have HC := Lib.hid (three_cells N1)
  have HB := Lib.hid N2
  clear N1 N2
  go_enter Tryz.func10, Tryz.ntmps10
  go_wp2
  obtain ⟨e0, e1, e2⟩ := HC.out
  refine bodyPost_ret (by simp [results, Tryz.results10, go_sem, e0, e1, e2]; try rfl) rfl ?_
  exact ⟨rfl, HB.out⟩

theorem view_Taken {w : World} {N g : Nat} {cs : List ColB} {qs : List PairB} {c : CurB} {n : Int} {Q : Nat → Prop} (hV : Vw 65 w N g cs qs c n Q) :
    Calls Tryz.prog 11 #[.pointer (some ⟨g, 0, none⟩)] w fun e w' => e = .returned (.int .i64 n) ∧ w = w' := by
  obtain ⟨sv, vv, hB, hS, hP⟩ := hV.box
  obtain ⟨c0, c1, c2, c3, c4, c5⟩ := hB.cells
  clear hV hB hS hP
  go_enter Tryz.func11, Tryz.ntmps11
  go_wp2
  go_ret
  exact ⟨rfl, rfl⟩

theorem view_Taken_nil (w : World) : Calls Tryz.prog 11 #[.pointer none] w fun e w' => e = .returned (.int .i64 0) ∧ w = w' := by
  go_enter Tryz.func11, Tryz.ntmps11
  go_wp2
  go_ret
  exact ⟨rfl, rfl⟩

end Go.Proofs.YtokpphhmmcoeaaaGreatDoor
