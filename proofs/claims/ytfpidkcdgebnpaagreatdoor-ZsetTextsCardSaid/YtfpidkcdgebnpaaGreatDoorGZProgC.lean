/-
  zset.Text.
-/
import Derived.Test.YtfpidkcdgebnpaaGreatDoorGZDefs
import Derived.Test.YtfpidkcdgebnpaaGreatDoorGZProgA
import Derived.Test.YtfpidkcdgebnpaaGreatDoorGRowIO
import Derived.Test.YtfpidkcdgebnpaaGreatDoorGBaseB
import Derived.Test.YtfpidkcdgebnpaaGreatDoorShelf9
set_option linter.unusedVariables false
set_option linter.unusedSimpArgs false
set_option maxRecDepth 1000000
namespace Go.Proofs.YtfpidkcdgebnpaaGreatDoor
open Go.RowKit Go.Shelf

theorem join_len2 (l : List (List UInt8)) (n : Nat) (h : ∀ x ∈ l, x.length ≤ n) : (Lib.join l sep2).length ≤ l.length * (n + 2) := by
  induction l with
  | nil => simp [Lib.join]
  | cons a r ih =>
    have h1 := h a (by simp)
    have h2 := ih (fun x hx => h x (by simp [hx]))
    cases r with
    | nil => rw [Lib.join_one]; simp; omega
    | cons b s =>
      rw [Lib.join_cons]
      rw [Lib.join_cons] at h2
      simp [Lib.joinTail, sep2] at h2 ⊢
      simp [Nat.add_mul] at h2 ⊢
      omega
theorem textK_int (x : Int) (h0 : -9223372036854775808 ≤ x) (h1 : x ≤ 9223372036854775807) (l : List UInt8) : textK 0 (x % 18446744073709551616).toNat l = sdec x := by
  unfold textK
  rw [if_neg (by decide)]
  unfold numL
  rw [if_pos rfl, wrap_mod h0 h1]
theorem pairT_small {cs : List ColB} {p : PairB} (hc : CES p.1) (hw : inW p.2) (h : errRow cs p.1 = 0) : (pairT cs p).length ≤ 5100 ∧ (textR cs p.1).length ≤ 5000 ∧ (sdec p.2).length ≤ 30 := by
  obtain ⟨g1, g2, g3⟩ := errRow_len h
  have h8 := ((errS_iffR (colsL cs)).1 g1).1.2
  unfold colsL at h8; rw [List.length_map] at h8
  have h1 := textR_small hc g3 h8
  have h2 := sdec_len p.2 hw.1 hw.2
  refine ⟨?_, h1, by omega⟩
  unfold pairT
  simp; omega

theorem lib_JoinS (v : Value) (ss : List ByteArray) (sep : ByteArray) (w : World) (h : RdT w v ss) (hp : 0 < ss.length) (hl : (Lib.join (ss.map (·.data.toList)) sep.data.toList).length ≤ 140737488355328) :
    Calls Tryz.prog 56 #[v, .string sep] w fun e w' => e = .returned (.string ⟨(Lib.join (ss.map (·.data.toList)) sep.data.toList).toArray⟩) ∧ Below w.heap.size w w' := by
  have hsm := h.small
  obtain ⟨ao, cap, hv, hcap, hnil, hsome⟩ := RdG.shape h
  have hl1 : (ss.map strV).length = ss.length := by simp
  rw [hl1] at hv hcap hsome
  obtain ⟨bk, o6, rfl⟩ := hsome hp
  subst hv
  have hcells : ∀ (j : Nat) x, ss[j]? = some x → w.cell? ⟨bk, o6 + j, none⟩ = some (.string x) := by
    intro j x hj
    have hjl := (List.getElem?_eq_some_iff.1 hj).1
    have := RdG.cells h j (by rw [List.length_map]; exact hjl) 0 (.string x) (by
      rw [getD_map strV _ j hjl default]
      have e : ss.getD j default = x := by simp only [List.getD, hj, Option.getD_some]
      rw [e]; rfl)
    rw [adr_lit, show o6 + (j * strE.n + 0) = o6 + j from by show o6 + (j * 1 + 0) = o6 + j; omega] at this
    exact this
  exact Any.strings_Join Tryz.laysJoin joinX bk o6 cap ss sep w hcells (World.block_lt_of_cell? w _ (hcells 0 _ (List.getElem?_eq_getElem hp))) (by omega) hcap hl

/-- What Text answers. -/
def TxZ (w : World) (cs : List ColB) (ps : List PairB) (e : Ending) (w' : World) : Prop :=
  ∃ t, e = .returned (.tuple #[.string t, .int .i64 (chkZ cs ps : Nat)]) ∧ Below w.heap.size w w' ∧ ((chkZ cs ps ≠ 0 ∧ t = ⟨#[]⟩) ∨ (chkZ cs ps = 0 ∧ RdS t (textZ cs ps)))

set_option maxHeartbeats 16000000 in
theorem zset_Text (v1 v2 : Value) (cs : List ColB) (ps : List PairB) (w : World) (h1 : RdC w v1 cs) (h2 : RdP w v2 ps) (hC : CS cs) (hP : PSO ps) (hL : Lib3 w) :
    Calls Tryz.prog 25 #[v1, v2] w (TxZ w cs ps) := by
  have CK := Lib.hid (zset_Check v1 v2 cs ps w h1 h2 hC hP hL.tabs)
  have hl2 := h2.len
  have H2 := Lib.hid h2
  have R1 := Lib.hid (fun wz (hz : Below w.heap.size w wz) => h1.later hz (Nat.le_refl _))
  have HL := Lib.hid hL
  clear h1 h2 hL
  obtain ⟨c, hc⟩ : ∃ c, c = chkZ cs ps := ⟨_, rfl⟩
  rw [← hc] at CK
  by_cases hcz : c = 0
  · have hz := (chkZ_zero hP).1 (show chkZ cs ps = 0 by omega)
    have HV := Lib.hid hz.2.2.all
    have hlen : ps.length ≤ 1024 := hz.2.1
    have HC0 := Lib.hid (show chkZ cs ps = 0 by omega)
    subst hcz
    obtain ⟨n, hn⟩ : ∃ n, n = ps.length := ⟨_, rfl⟩
    rw [← hn] at hl2 hlen
    have HN := Lib.hid hn
    clear hc hz hn
    by_cases hn0 : n = 0
    · subst hn0
      have HT := Lib.hid (show textZ cs ps = [45] from by unfold textZ; rw [if_pos (List.eq_nil_of_length_eq_zero HN.out.symm)])
      rw [show ((0 : Nat) : Int) = 0 from rfl] at hl2 CK
      go_enter Tryz.func25, Tryz.ntmps25
      go_wp2_with fail
      refine CK.out.mono ?_
      rintro e w1 ⟨rfl, hb⟩
      have HB1 := Lib.hid hb
      clear hb CK
      go_wp2
      go_ret2
      exact ⟨_, by rw [HC0.out]; rfl, HB1.out, .inr ⟨HC0.out, by rw [HT.out]; exact ⟨rfl, by simp⟩⟩⟩
    · have hnz : ((n : Int) == 0) = false := by rw [beq_eq_false_iff_ne]; omega
      rw [show ((0 : Nat) : Int) = 0 from rfl] at CK
      go_enter Tryz.func25, Tryz.ntmps25
      go_wp2_with fail
      refine CK.out.mono ?_
      rintro e w1 ⟨rfl, hb⟩
      have HB1 := Lib.hid hb
      have hsz1 := hb.size
      clear hb CK
      go_wp2
      go_loopw [7, 25] (fun tv i wr => ∃ (k : Nat) (tx : Value), tx = tv ∧ k ≤ n ∧ i = .int .i64 k ∧ Hid (OwnT wr w1.heap.size tx (strL ((ps.take k).map (pairT cs)))) ∧ Hid (Below w1.heap.size w1 wr)) (fun _ i _ => n - (intOf i).toNat)
      case atStart => exact ⟨0, _, rfl, by omega, rfl, Lib.hid (OwnG.nil strE _ _), Lib.hid (Below.refl _ _)⟩
      case round =>
        obtain ⟨k, tx, rfl, hk, rfl, HO, HB⟩ := hrel
        have HBw := Lib.hid (HB1.out.trans (HB.out.mono hsz1))
        by_cases hlt : k < n
        · have k2 : k < ps.length := by rw [← HN.out]; exact hlt
          obtain ⟨b, o, rv, hi, c0, c1, re, hbl⟩ := H2.out.get k2
          obtain ⟨hce, hww⟩ := hP.get k2
          obtain ⟨ao, nn, cap, rfl⟩ := re.lit
          have hv8 := (HV.out (ps.getD k default) (by simp [List.getD, k2])).1
          have HTK := Lib.hid (show ps.take (k + 1) = ps.take k ++ [ps.getD k default] from by rw [List.take_add_one]; simp [List.getD, k2])
          obtain ⟨p, hp⟩ : ∃ p, p = ps.getD k default := ⟨_, rfl⟩
          rw [← hp] at c1 re hce hww hv8 HTK
          have hsm := pairT_small hce hww hv8
          rcases p with ⟨r, x⟩
          dsimp only at c1 re hce hww hv8 hsm
          have hc0 := (HBw.out.cell (p := ⟨b, o, none⟩) hbl).trans c0
          have hc1 := (HBw.out.cell (p := ⟨b, o + 1, none⟩) hbl).trans c1
          have NN := Lib.hid (new1 wr (.cells #[.slice ao nn cap, .int .i64 x] 51))
          have HBN := Lib.hid (HBw.out.trans (NN.out.2.2.mono HBw.out.size))
          obtain ⟨m, hm⟩ : ∃ m : Nat, m = (x % 18446744073709551616).toNat := ⟨_, rfl⟩
          have hm64 : m < 18446744073709551616 := by omega
          have CI := Lib.hid (fun wz : World => cell_Int x m (by omega) wz)
          have CT := Lib.hid (fun wz (hz : Below w.heap.size w wz) => cell_TextR 0 m hm64 ⟨#[]⟩ [] wz ⟨rfl, by simp⟩ (HL.out.later hz) (by unfold checkC; simp))
          rw [hm, textK_int x hww.1 hww.2] at CT
          rw [← hm] at CT
          have RT := Lib.hid (fun wz (hz : Below w.heap.size w wz) => row_Text v1 _ cs r wz (R1.out wz hz) (re.later hz (Nat.le_refl _)) hC hce (HL.out.later hz))
          have HSM := Lib.hid hsm
          have HV8 := Lib.hid hv8
          have HOa := Lib.hid (HO.out.later NN.out.2.2 (Nat.le_refl _))
          have HBa := Lib.hid (HB.out.trans (NN.out.2.2.mono HB.out.size))
          have hsa := NN.out.1
          have hsr := HB.out.size
          have hsw := HBw.out.size
          clear hp k2 re hce hww hv8 c0 c1 hsm hm HO HB
          unfold cellV at CI CT
          go_wp2_with fail
          refine (CI.out _).mono ?_
          rintro e w2 ⟨rfl, hb2⟩
          have HB2 := Lib.hid (HBN.out.trans (hb2.mono HBN.out.size))
          have hg2 := (hb2.block wr.heap.size (by omega)).trans NN.out.2.1
          have HG2 := Lib.hid hg2
          have hs2 := hb2.size
          have HBb := Lib.hid (HBa.out.trans (hb2.mono HBa.out.size))
          have HOb := Lib.hid (HOa.out.later hb2 (Nat.le_refl _))
          clear hb2 CI hc0 hc1 HBN NN hg2 HBa HOa
          go_wp2_with fail
          refine (CT.out _ HB2.out).mono ?_
          rintro e w3 ⟨⟨ts, rfl, hts⟩, hb3⟩
          have HB3 := Lib.hid (HB2.out.trans (hb3.mono HB2.out.size))
          have hg3 := (hb3.block wr.heap.size (by omega)).trans HG2.out
          have d0 := cell_of_row _ _ 0 _ _ _ hg3
          have d1 := cell_of_row _ _ 1 _ _ _ hg3
          simp at d0 d1
          have HTS := Lib.hid hts
          have hs3 := hb3.size
          have HBc := Lib.hid (HBb.out.trans (hb3.mono HBb.out.size))
          have HOc := Lib.hid (HOb.out.later hb3 (Nat.le_refl _))
          clear hb3 CT hts hg3 HG2 HBb HOb HB2
          go_wp2_with fail
          refine (RT.out _ HB3.out).mono ?_
          rintro e w4 ⟨tr, rfl, hb4, htr⟩
          rw [HV8.out, show ((0 : Nat) : Int) = 0 from rfl]
          have htr' : RdS tr (textR cs r) := by
            rcases htr with ⟨h9, _⟩ | ⟨_, h9⟩
            · exact absurd HV8.out h9
            · exact h9
          have hz1 : ts.size ≤ 30 := by rw [HTS.out.size]; exact HSM.out.2.2
          have hz2 : tr.size ≤ 5000 := by rw [htr'.size]; exact HSM.out.2.1
          obtain ⟨tt, htt⟩ : ∃ tt : ByteArray, tt = ts ++ ⟨#[32]⟩ ++ tr := ⟨_, rfl⟩
          have HT3 := Lib.hid (show tt = ⟨(pairT cs (r, x)).toArray⟩ from by
            have h1 := RdS.app (RdS.app HTS.out (show RdS ⟨#[32]⟩ [32] from ⟨rfl, by simp⟩) (by have := HSM.out.2.2; simp; omega)) htr' (by have := HSM.out; simp; omega)
            rw [htt, h1.eq]; rfl)
          have p1 : ¬ (9223372036854775807 < ts.size + 1) := by omega
          have p2 : ¬ (9223372036854775807 < ts.size + 1 + tr.size) := by omega
          have HB4 := Lib.hid (HBc.out.trans (hb4.mono HBc.out.size))
          have HO4 := Lib.hid (HOc.out.later hb4 (Nat.le_refl _))
          have HTT := Lib.hid htt
          have hs4 := hb4.size
          clear hb4 htr htr' RT HBc HOc hz1 hz2 d0 d1 htt
          have hll : (strL ((ps.take k).map (pairT cs))).length ≤ k := by rw [strL_length, List.length_map, List.length_take]; omega
          have HO5 := Lib.hid (show OwnT (w4.alloc (.cells #[.string (ts ++ ⟨#[32]⟩ ++ tr)] 9)) w1.heap.size tx (strL ((ps.take k).map (pairT cs))) from OwnG.alloc HO4.out _)
          have HB5 := Lib.hid (HB4.out.alloc (by have := HB4.out.size; exact this) (.cells #[.string (ts ++ ⟨#[32]⟩ ++ tr)] 9))
          have hs14 := HB4.out.size
          clear HO4 HB4
          go_wp2_with (with_reducible refine wplT_append w1.heap.size _ ?hs HO5.out ⟨w4.heap.size, 0, none⟩ (ts ++ ⟨#[32]⟩ ++ tr) ?hx (one_str w4 _) ?hn ?hbase w1.heap.size w1 HB5.out (Nat.le_refl _) ?_)
          case hs => rfl
          case hx => rfl
          case hn => omega
          case hbase => simp; omega
          intro v5 w5 ho5 hb5 _
          have HO6 := Lib.hid (show OwnT w5 w1.heap.size v5 (strL ((ps.take (k + 1)).map (pairT cs))) from by
            have e : strL ((ps.take (k + 1)).map (pairT cs)) = strL ((ps.take k).map (pairT cs)) ++ [ts ++ ⟨#[32]⟩ ++ tr] := by
              rw [HTK.out, ← HTT.out, HT3.out]
              unfold strL
              rw [List.map_append, List.map_append]; rfl
            rw [e]; exact ho5)
          have HB6 := Lib.hid hb5
          clear ho5 hb5 HO5 HB5 hll
          go_wp2
          go_roundw
          case rel => exact ⟨k + 1, _, rfl, by omega, by go_num, HO6, HB6⟩
          case measure => simp [intOf]; omega
        · obtain rfl : k = n := by omega
          have htk : ps.take k = ps := List.take_of_length_le (by rw [← HN.out]; exact Nat.le_refl _)
          rw [htk] at HO
          have hne : ps ≠ [] := fun h => hn0 (by rw [HN.out, h]; rfl)
          have HTX := Lib.hid (show textZ cs ps = Lib.join (ps.map (pairT cs)) sep2 from by unfold textZ; rw [if_neg hne])
          have hjl := join_len2 (ps.map (pairT cs)) 5100 (by
            intro y hy
            obtain ⟨p, hp, rfl⟩ := List.mem_map.1 hy
            exact (pairT_small (hP p hp).1 (hP p hp).2 (HV.out p hp).1).1)
          have hjb : (Lib.join (ps.map (pairT cs)) sep2).length ≤ 6000000 := by
            rw [List.length_map] at hjl
            have : ps.length * (5100 + 2) ≤ 1024 * 5102 := Nat.mul_le_mul_right _ (by rw [← HN.out]; omega)
            omega
          have hdat : (strL (ps.map (pairT cs))).map (·.data.toList) = ps.map (pairT cs) := strL_data _
          have hpl : (strL (ps.map (pairT cs))).length = k := by rw [strL_length, List.length_map, HN.out]
          have hj := lib_JoinS tx (strL (ps.map (pairT cs))) ⟨#[59, 32]⟩ wr (HO.out.rd (by rw [hpl]; omega)) (by omega) (by rw [hdat]; show (Lib.join _ sep2).length ≤ _; omega)
          rw [hdat] at hj
          obtain ⟨tt, htt⟩ : ∃ tt : ByteArray, tt = ⟨(Lib.join (ps.map (pairT cs)) [59, 32]).toArray⟩ := ⟨_, rfl⟩
          have HJ := Lib.hid (show Calls Tryz.prog 56 #[tx, .string ⟨#[59, 32]⟩] wr fun e w' => e = .returned (.string tt) ∧ Below wr.heap.size wr w' from by rw [htt]; exact hj)
          have HRT := Lib.hid (show RdS tt (textZ cs ps) from by rw [htt, HTX.out]; exact rdS_list _ (by show (Lib.join _ sep2).length ≤ _; omega))
          clear hj htt hdat hpl hjl hjb hne htk hlt
          go_wp2_with fail
          refine HJ.out.mono ?_
          rintro e w5 ⟨rfl, hb⟩
          have HB5 := Lib.hid (HBw.out.trans (hb.mono HBw.out.size))
          clear hb
          go_wp2
          go_ret2
          exact ⟨_, by rw [HC0.out]; rfl, HB5.out, .inr ⟨HC0.out, HRT.out⟩⟩
  · have q : ((c : Int) != 0) = true := by rw [bne_iff_ne]; omega
    have HC0 := Lib.hid (show chkZ cs ps = c by omega)
    clear hc
    go_enter Tryz.func25, Tryz.ntmps25
    go_wp2_with fail
    refine CK.out.mono ?_
    rintro e w1 ⟨rfl, hb⟩
    have HB1 := Lib.hid hb
    clear hb CK
    go_wp2
    go_ret2
    exact ⟨_, by rw [HC0.out]; rfl, HB1.out, .inl ⟨by rw [HC0.out]; exact hcz, rfl⟩⟩

end Go.Proofs.YtfpidkcdgebnpaaGreatDoor


/-
  zset.readPair, zset.Read.
-/
namespace Go.Proofs.YtfpidkcdgebnpaaGreatDoor
open Go.RowKit Go.Shelf

theorem lib_Cut (s : ByteArray) (l : List UInt8) (sep : ByteArray) (sl : List UInt8) (w : World) (h : RdS s l) (hl : l.length ≤ 100000) (hs : sep.data.toList = sl) (hX : Mx w) :
    Calls Tryz.prog 57 #[.string s, .string sep] w fun e w' => e = .returned (.tuple #[.string ⟨(Lib.cut l sl).1.toArray⟩, .string ⟨(Lib.cut l sl).2.1.toArray⟩, .bool (Lib.cut l sl).2.2]) ∧ Below w.heap.size w w' := by
  obtain ⟨m, hm⟩ := hX
  have hd : s.data.toList = l := by rw [h.eq]
  have hz : s.size = l.length := by rw [h.eq]; simp [ByteArray.size]
  have c : Calls Tryz.prog 57 #[.string s, .string sep] w _ := Any.strings_Cut Tryz.laysCut s sep m w (by omega) hm
  rw [hd, hs] at c
  refine c.mono ?_
  rintro e w' ⟨rfl, n, rfl⟩
  exact ⟨rfl, _root_.Go.below_drewN (Below.refl _ _) n⟩

/-- What readPair answers. -/
def RdPr (w : World) (cs : List ColB) (l : List UInt8) (e : Ending) (w' : World) : Prop :=
  ∃ rv x, e = .returned (.tuple #[.agg #[rv, .int .i64 x], .int .i64 (prE cs l : Nat)]) ∧ Below w.heap.size w w' ∧ (∃ ao n cap, rv = .slice ao n cap) ∧ (prE cs l = 0 → x = (prP cs l).2 ∧ RdE w' rv (prP cs l).1 ∧ FarR w rv (prP cs l).1.length)

set_option maxHeartbeats 8000000 in
theorem zset_readPair (v1 : Value) (s : ByteArray) (cs : List ColB) (l : List UInt8) (w : World) (h1 : RdC w v1 cs) (hs : RdS s l) (hC : CS cs) (hl : l.length ≤ 100000) (hL : Lib4 w) (hX : Mx w) :
    Calls Tryz.prog 58 #[v1, .string s] w (RdPr w cs l) := by
  have hcl := cutB_len l [32]
  obtain ⟨a, ha⟩ : ∃ a, a = (Lib.cut l [32]).1 := ⟨_, rfl⟩
  obtain ⟨b, hb⟩ : ∃ b, b = (Lib.cut l [32]).2.1 := ⟨_, rfl⟩
  obtain ⟨f, hf⟩ : ∃ f, f = (Lib.cut l [32]).2.2 := ⟨_, rfl⟩
  have hPE : prE cs l = if f = true ∧ (unsC a).isSome then rowE cs b else 6 := by rw [ha, hb, hf]; rfl
  have hPP : prP cs l = (rowC cs b, (unsC a).getD 0) := by rw [ha, hb]; rfl
  rw [← ha, ← hb] at hcl
  obtain ⟨N0, N1, N2⟩ := new1 w (.cells #[.slice none 0 0, .int .i64 0] 51)
  have CU := Lib.hid (lib_Cut s l ⟨#[32]⟩ [32] _ hs hl rfl (hX.later N2))
  rw [← ha, ← hb, ← hf] at CU
  obtain ⟨sa, hsa⟩ : ∃ sa : ByteArray, sa = ⟨a.toArray⟩ := ⟨_, rfl⟩
  obtain ⟨sb, hsb⟩ : ∃ sb : ByteArray, sb = ⟨b.toArray⟩ := ⟨_, rfl⟩
  rw [← hsa, ← hsb] at CU
  have hra : RdS sa a := by rw [hsa]; exact rdS_list a (by omega)
  have hrb : RdS sb b := by rw [hsb]; exact rdS_list b (by omega)
  obtain ⟨q1, q2, q3⟩ := readV_zero a
  obtain ⟨c, hc⟩ : ∃ c, c = cellO (readV 0 a) := ⟨_, rfl⟩
  obtain ⟨k, hk⟩ : ∃ k, k = codeO (readV 0 a) := ⟨_, rfl⟩
  have CR := Lib.hid (fun wz (hz : Below w.heap.size w wz) => (show Calls Tryz.prog 85 #[.int .i64 0, .string sa] wz fun e w' => e = .returned (.tuple #[.agg #[.int .u64 (c.1 : Int), .string c.2], .int .i64 (k : Int)]) ∧ Below wz.heap.size wz w' from by
    refine (cell_Read 0 sa a wz hra (hL.later hz)).mono ?_
    rintro e w' ⟨he, hb⟩
    exact ⟨by rw [rdVal_of he, rdVal_co, hc, hk], hb⟩))
  rw [← hk] at q1
  rw [← hc] at q2 q3
  rcases c with ⟨cn, ct⟩
  dsimp only at q2 q3
  subst q3
  have RR := Lib.hid (fun wz (hz : Below w.heap.size w wz) => row_ReadF v1 sb cs b wz (h1.later hz (Nat.le_refl _)) hrb hC (by omega) (hL.later hz) (hX.later hz))
  have NB := Lib.hid N2
  have NG := Lib.hid N1
  have hn0 : (w.alloc (.cells #[.slice none 0 0, .int .i64 0] 51)).heap.size = w.heap.size + 1 := N0
  clear h1 hs hL hX hra hrb hsa hsb ha hb hf hc hk N0 N1 N2 hl hcl
  by_cases hok : f = true ∧ (unsC a).isSome = true
  · obtain ⟨rfl, hsome⟩ := hok
    rw [if_pos ⟨rfl, hsome⟩] at hPE
    rw [if_pos hsome] at q1
    obtain ⟨v, hv⟩ := Option.isSome_iff_exists.1 hsome
    rw [hv] at q2 hPP
    have hvb := (unsC_some a v hv).2
    have hcn : cn = (v % 18446744073709551616).toNat := q2
    have SG := Lib.hid (fun wz : World => cell_Signed cn (by omega) ⟨#[]⟩ wz)
    have hw64 : wrap64 (cn : Int) = v := by rw [hcn]; exact wrap_mod hvb.1 hvb.2
    rw [hw64] at SG
    subst q1
    have HPE := Lib.hid hPE
    have HPP := Lib.hid hPP
    obtain ⟨x, hx⟩ : ∃ x, x = rowE cs b := ⟨_, rfl⟩
    have HX := Lib.hid hx
    clear hPE hPP q2 hv hsome hcn hw64 hx
    go_enter Tryz.func58, Tryz.ntmps58
    go_wp2_with fail
    refine CU.out.mono ?_
    rintro e w1 ⟨rfl, hb1⟩
    have HB1 := Lib.hid (NB.out.trans (hb1.mono (by omega)))
    have HG1 := Lib.hid ((hb1.block w.heap.size (by omega)).trans NG.out)
    have hs1 : w.heap.size < w1.heap.size := by have := hb1.size; omega
    clear hb1 CU NB NG
    go_wp2_with fail
    refine (CR.out _ HB1.out).mono ?_
    rintro e w2 ⟨rfl, hb2⟩
    obtain ⟨M0, M1, M2⟩ := new1 w2 (.cells #[.int .u64 (cn : Int), .string ⟨#[]⟩] 71)
    have HB2 := Lib.hid ((HB1.out.trans (hb2.mono (by omega))).trans (M2.mono (by have := hb2.size; omega)))
    have hs2 := hb2.size
    have HG2 := Lib.hid ((M2.block w.heap.size (by omega)).trans ((hb2.block w.heap.size hs1).trans HG1.out))
    have HM2 := Lib.hid M1
    have hm2 : (w2.alloc (.cells #[.int .u64 (cn : Int), .string ⟨#[]⟩] 71)).heap.size = w2.heap.size + 1 := M0
    have RR2 := Lib.hid (RR.out _ HB2.out)
    clear hb2 M0 M1 M2 HB1 HG1 CR RR
    go_wp2_with fail
    refine RR2.out.mono ?_
    rintro e w3 ⟨rv, rfl, hb3, hr3, hf3⟩
    rw [← HX.out]
    have HB3 := Lib.hid (HB2.out.trans (hb3.mono (by omega)))
    have g3 := (hb3.block w.heap.size (by omega)).trans HG2.out
    have m3 := (hb3.block w2.heap.size (by omega)).trans HM2.out
    have hs3 := hb3.size
    have c0 := cell_of_row _ _ 0 _ _ _ g3
    have c1 := cell_of_row _ _ 1 _ _ _ g3
    have f0 := frozen_of_row w3 w.heap.size 0 _ _ g3
    have f1 := frozen_of_row w3 w.heap.size 1 _ _ g3
    have d0 := cell_of_row _ _ 0 _ _ _ m3
    have d1 := cell_of_row _ _ 1 _ _ _ m3
    simp at c0 c1 d0 d1
    by_cases hx0 : x = 0
    · subst hx0
      obtain ⟨ao, nn, cap, rfl⟩ := hr3.lit
      have HR3 := Lib.hid hr3
      have HF3 := Lib.hid hf3
      clear c0 c1 f0 f1 hr3 hf3
      go_wp2_with fail
      refine (SG.out _).mono ?_
      rintro e w4 ⟨rfl, hb4⟩
      have HB4 := Lib.hid (HB3.out.trans (hb4.mono (by omega)))
      have g9 := (hb4.block w.heap.size (by omega)).trans g3
      have c0 := cell_of_row _ _ 0 _ _ _ g9
      have c1 := cell_of_row _ _ 1 _ _ _ g9
      have f0 := frozen_of_row w4 w.heap.size 0 _ _ g9
      have f1 := frozen_of_row w4 w.heap.size 1 _ _ g9
      simp at c0 c1
      have h49 : w.heap.size < w4.heap.size := by have := hb4.size; omega
      have HR4 := Lib.hid (HR3.out.later hb4 (Nat.le_refl _))
      have hlt4 := hb4.size
      clear hb4 HB3 d0 d1 g3 m3
      have z5 : ((w4.setCell ⟨w.heap.size, 0, none⟩ (.slice ao nn cap)).setCell ⟨w.heap.size, 1, none⟩ (.int .i64 v)).heap[w.heap.size]? = some (.cells #[.slice ao nn cap, .int .i64 v] 51 (0, 0)) := block_setCell (k := 1) (block_setCell (k := 0) g9 _) _
      have k0 := cell_of_row _ _ 0 _ _ _ z5
      have k1 := cell_of_row _ _ 1 _ _ _ z5
      simp at k0 k1
      have K0 := Lib.hid k0
      have K1 := Lib.hid k1
      clear z5 k0 k1
      go_wp2
      refine bodyPost_ret (v := .tuple #[.agg #[.slice ao nn cap, .int .i64 v], .int .i64 0]) (by simp [results, Tryz.results58, go_sem, K0.out, K1.out]) rfl ?_
      refine ⟨_, _, by rw [HPE.out, ← HX.out]; rfl, (HB4.out.setCell (p := ⟨w.heap.size, 0, none⟩) (Nat.le_refl _) _).setCell (p := ⟨w.heap.size, 1, none⟩) (Nat.le_refl _) _, ⟨_, _, _, rfl⟩, fun _ => ?_⟩
      rw [HPP.out]
      refine ⟨rfl, ?_, fun g hg => HF3.out g (by omega)⟩
      have hne : ∀ i, i < (rowC cs b).length → (adr (.slice ao nn cap) (i * 2)).block ≠ w.heap.size := HF3.out w.heap.size (by omega)
      have hon : Only (fun j => j = w.heap.size) w4 ((w4.setCell ⟨w.heap.size, 0, none⟩ (.slice ao nn cap)).setCell ⟨w.heap.size, 1, none⟩ (.int .i64 v)) :=
        ((Only.refl (fun j => j = w.heap.size) w4).setCell (p := ⟨w.heap.size, 0, none⟩) rfl _).setCell (p := ⟨w.heap.size, 1, none⟩) rfl _
      exact RdG.same HR4.out fun i hi => hon.block _ (RdG.block HR4.out cellOk hi) (hne i (by simpa using hi))
    · have q : ((x : Int) != 0) = true := by rw [bne_iff_ne]; omega
      have g9 := g3
      have h39 : w.heap.size < w3.heap.size := by omega
      clear hr3 hf3 d0 d1 g3 m3
      have z5 : ((w3.setCell ⟨w.heap.size, 0, none⟩ (.slice none 0 0)).setCell ⟨w.heap.size, 1, none⟩ (.int .i64 0)).heap[w.heap.size]? = some (.cells #[.slice none 0 0, .int .i64 0] 51 (0, 0)) := block_setCell (k := 1) (block_setCell (k := 0) g9 _) _
      have k0 := cell_of_row _ _ 0 _ _ _ z5
      have k1 := cell_of_row _ _ 1 _ _ _ z5
      simp at k0 k1
      have K0 := Lib.hid k0
      have K1 := Lib.hid k1
      clear z5 k0 k1
      go_wp2
      refine bodyPost_ret (v := .tuple #[.agg #[.slice none 0 0, .int .i64 0], .int .i64 (x : Int)]) (by simp [results, Tryz.results58, go_sem, K0.out, K1.out]) rfl ?_
      exact ⟨_, _, by rw [HPE.out, ← HX.out], (HB3.out.setCell (p := ⟨w.heap.size, 0, none⟩) (Nat.le_refl _) _).setCell (p := ⟨w.heap.size, 1, none⟩) (Nat.le_refl _) _, ⟨_, _, _, rfl⟩, fun h => absurd h (by rw [HPE.out, ← HX.out]; exact hx0)⟩
  · rw [if_neg hok] at hPE
    have HPE := Lib.hid hPE
    have HK := Lib.hid (show f = true → k = 6 from fun hf => by rw [q1, if_neg (fun h => hok ⟨hf, h⟩)])
    clear hPE hPP q2 hok q1 RR
    go_enter Tryz.func58, Tryz.ntmps58
    go_wp2_with fail
    refine CU.out.mono ?_
    rintro e w1 ⟨rfl, hb1⟩
    have HB1 := Lib.hid (NB.out.trans (hb1.mono (by omega)))
    have HG1 := Lib.hid ((hb1.block w.heap.size (by omega)).trans NG.out)
    have hs1 : w.heap.size < w1.heap.size := by have := hb1.size; omega
    clear hb1 CU NB NG
    go_wp2_with fail
    refine (CR.out _ HB1.out).mono ?_
    rintro e w2 ⟨rfl, hb2⟩
    obtain ⟨M0, M1, M2⟩ := new1 w2 (.cells #[.int .u64 (cn : Int), .string ⟨#[]⟩] 71)
    have HB2 := Lib.hid ((HB1.out.trans (hb2.mono (by omega))).trans (M2.mono (by have := hb2.size; omega)))
    have hs2 := hb2.size
    have HBA := Lib.hid (HB1.out.trans (hb2.mono (by omega)))
    have g9 := (hb2.block w.heap.size hs1).trans HG1.out
    have c0 := cell_of_row _ _ 0 _ _ _ g9
    have c1 := cell_of_row _ _ 1 _ _ _ g9
    have f0 := frozen_of_row _ w.heap.size 0 _ _ g9
    have f1 := frozen_of_row _ w.heap.size 1 _ _ g9
    simp at c0 c1
    have hWs : w.heap.size < w2.heap.size := by omega
    by_cases hf : f = true
    · subst hf
      have hk6 := HK.out rfl
      subst hk6
      clear hb2 M0 M1 M2 HB1 HG1 CR HK
      have z5 : ((w2.setCell ⟨w.heap.size, 0, none⟩ (.slice none 0 0)).setCell ⟨w.heap.size, 1, none⟩ (.int .i64 0)).heap[w.heap.size]? = some (.cells #[.slice none 0 0, .int .i64 0] 51 (0, 0)) := block_setCell (k := 1) (block_setCell (k := 0) g9 _) _
      have z6 := (Below.heap_alloc ((w2.setCell ⟨w.heap.size, 0, none⟩ (.slice none 0 0)).setCell ⟨w.heap.size, 1, none⟩ (.int .i64 0)) (.cells #[.int .u64 (cn : Int), .string ⟨#[]⟩] 71) w.heap.size (by simp; omega)).trans z5
      have k0 := cell_of_row _ _ 0 _ _ _ z6
      have k1 := cell_of_row _ _ 1 _ _ _ z6
      simp at k0 k1
      have K0 := Lib.hid k0
      have K1 := Lib.hid k1
      clear z5 k0 k1
      go_wp2
      refine bodyPost_ret (v := .tuple #[.agg #[.slice none 0 0, .int .i64 0], .int .i64 6]) (by simp [results, Tryz.results58, go_sem, K0.out, K1.out]) rfl ?_
      exact ⟨_, _, by rw [HPE.out]; rfl, ((HBA.out.setCell (p := ⟨w.heap.size, 0, none⟩) (Nat.le_refl _) _).setCell (p := ⟨w.heap.size, 1, none⟩) (Nat.le_refl _) _).alloc (by simp; omega) _, ⟨_, _, _, rfl⟩, fun h => absurd h (by rw [HPE.out]; decide)⟩
    · have hf0 : f = false := by simpa using hf
      subst hf0
      clear hb2 M0 M1 M2 HB1 HG1 CR HK hf
      have z5 : ((w2.setCell ⟨w.heap.size, 0, none⟩ (.slice none 0 0)).setCell ⟨w.heap.size, 1, none⟩ (.int .i64 0)).heap[w.heap.size]? = some (.cells #[.slice none 0 0, .int .i64 0] 51 (0, 0)) := block_setCell (k := 1) (block_setCell (k := 0) g9 _) _
      have z6 := (Below.heap_alloc ((w2.setCell ⟨w.heap.size, 0, none⟩ (.slice none 0 0)).setCell ⟨w.heap.size, 1, none⟩ (.int .i64 0)) (.cells #[.int .u64 (cn : Int), .string ⟨#[]⟩] 71) w.heap.size (by simp; omega)).trans z5
      have k0 := cell_of_row _ _ 0 _ _ _ z6
      have k1 := cell_of_row _ _ 1 _ _ _ z6
      simp at k0 k1
      have K0 := Lib.hid k0
      have K1 := Lib.hid k1
      clear z5 k0 k1
      go_wp2
      refine bodyPost_ret (v := .tuple #[.agg #[.slice none 0 0, .int .i64 0], .int .i64 6]) (by simp [results, Tryz.results58, go_sem, K0.out, K1.out]) rfl ?_
      exact ⟨_, _, by rw [HPE.out]; rfl, ((HBA.out.setCell (p := ⟨w.heap.size, 0, none⟩) (Nat.le_refl _) _).setCell (p := ⟨w.heap.size, 1, none⟩) (Nat.le_refl _) _).alloc (by simp; omega) _, ⟨_, _, _, rfl⟩, fun h => absurd h (by rw [HPE.out]; decide)⟩

-- behind readPair
def strN : Value → Nat
  | .string s => s.size
  | _ => 0
def boolN : Value → Nat
  | .bool true => 1
  | _ => 0
/-- What Read answers. -/
def RdSet (w : World) (cs : List ColB) (l : List UInt8) (e : Ending) (w' : World) : Prop :=
  ∃ v, e = .returned (.tuple #[v, .int .i64 (rdZe cs l : Nat)]) ∧ RdP w' v (rdZo cs l) ∧ Below w.heap.size w w'

theorem take_more {α : Type} (d : List α) (x : α) (n : Nat) (h : d.length < n) : d.take n ++ [x] = (d ++ [x]).take n := by
  rw [List.take_of_length_le (by omega), List.take_of_length_le (by simp; omega)]
theorem take_full {α : Type} (d : List α) (x : α) (n : Nat) (h : n ≤ d.length) : d.take n = (d ++ [x]).take n := by
  rw [List.take_append_of_le_length h]

set_option maxHeartbeats 16000000 in
theorem zset_Read (v1 : Value) (s : ByteArray) (cs : List ColB) (l : List UInt8) (w : World) (h1 : RdC w v1 cs) (hs : RdS s l) (hC : CS cs) (hl : l.length ≤ 100000) (hL : Lib4 w) (hX : Mx w) :
    Calls Tryz.prog 26 #[v1, .string s] w (RdSet w cs l) := by
  have SC := Lib.hid (schema_Check v1 cs w h1 hC hL.l3.tabs)
  have R1 := Lib.hid (fun wz (hz : Below w.heap.size w wz) => h1.later hz (Nat.le_refl _))
  have HL := Lib.hid hL
  have HX := Lib.hid hX
  have HS := Lib.hid hs
  have hd : s.data.toList = l := by rw [hs.eq]
  obtain ⟨x, hx⟩ : ∃ x, x = errS (colsL cs) := ⟨_, rfl⟩
  rw [← hx] at SC
  clear h1 hs hL hX
  by_cases h0 : x = 0
  · subst h0
    by_cases hm : l = [45]
    · have HE := Lib.hid (show rdZe cs l = 0 from by unfold rdZe; rw [if_neg (by omega), if_pos hm])
      have HO := Lib.hid (show rdZo cs l = [] from by unfold rdZo; rw [if_neg (fun h => h.1 hm)])
      have hse : s = ⟨#[45]⟩ := by rw [HS.out.eq, hm]
      subst hse
      clear hx hm hd
      go_enter Tryz.func26, Tryz.ntmps26
      go_wp2_with fail
      refine SC.out.mono ?_
      rintro e w1 ⟨rfl, hb⟩
      have HB1 := Lib.hid hb
      clear hb SC
      go_wp2
      go_ret2
      exact ⟨_, by rw [HE.out]; rfl, by rw [HO.out]; exact RdP.nil _, HB1.out⟩
    · have HE := Lib.hid (show rdZe cs l = if prsE cs (cut2 l) ≠ 0 then prsE cs (cut2 l) else chkZ cs ((cut2 l).map (prP cs)) from by unfold rdZe; rw [if_neg (by omega), if_neg hm])
      have HM := Lib.hid hm
      have hq : (s.toList == [45]) = false := by rw [HS.out.toList]; simp [hm]
      clear hx hm hd
      go_enter Tryz.func26, Tryz.ntmps26
      go_wp2_with fail
      refine SC.out.mono ?_
      rintro e w1 ⟨rfl, hb⟩
      have HB1 := Lib.hid hb
      have hsz1 := hb.size
      clear hb SC
      go_wp2
      go_loopw [1, 7, 9] (fun t1 tv mo wr => ∃ (done : List (List UInt8)) (r : List UInt8) (sr : ByteArray) (b : Bool) (tx : Value), tx = tv ∧ t1 = .string sr ∧ mo = .bool b ∧ Hid (RdS sr r ∧ r.length ≤ l.length ∧ cut2 l = done ++ (if b = true then cut2 r else []) ∧ prsE cs done = 0) ∧
          Hid (OwnP wr w1.heap.size tx ((done.map (prP cs)).take 1025)) ∧ Hid (Below w1.heap.size w1 wr)) (fun t1 _ mo _ => boolN mo * (strN t1 + 1))
      case atStart => exact ⟨[], l, s, true, _, rfl, rfl, rfl, Lib.hid ⟨HS.out, Nat.le_refl _, rfl, rfl⟩, Lib.hid (OwnP.nil _ _), Lib.hid (Below.refl _ _)⟩
      case round =>
        obtain ⟨done, r, sr, b, tx, rfl, rfl, rfl, HQ, HO, HB⟩ := hrel
        have HBw := Lib.hid (HB1.out.trans (HB.out.mono hsz1))
        cases b with
        | true =>
          obtain ⟨hrs, hrl, hcut, hpre⟩ := HQ.out
          rw [if_pos rfl, cut2_cut r] at hcut
          have hcl := cutB_len r sep2
          have hle := cutB_less r sep2 (by decide)
          obtain ⟨a, ha⟩ : ∃ a, a = (Lib.cut r sep2).1 := ⟨_, rfl⟩
          obtain ⟨r2, hr2⟩ : ∃ r2, r2 = (Lib.cut r sep2).2.1 := ⟨_, rfl⟩
          obtain ⟨f, hf⟩ : ∃ f, f = (Lib.cut r sep2).2.2 := ⟨_, rfl⟩
          have CU := Lib.hid (lib_Cut sr r ⟨#[59, 32]⟩ sep2 wr hrs (by omega) rfl (HX.out.later HBw.out))
          rw [← ha, ← hr2, ← hf] at CU
          rw [← ha, ← hr2, ← hf] at hcut
          rw [← ha, ← hr2] at hcl
          rw [← hr2, ← hf] at hle
          obtain ⟨sa, hsa⟩ : ∃ sa : ByteArray, sa = ⟨a.toArray⟩ := ⟨_, rfl⟩
          obtain ⟨sb, hsb⟩ : ∃ sb : ByteArray, sb = ⟨r2.toArray⟩ := ⟨_, rfl⟩
          rw [← hsa, ← hsb] at CU
          have hra : RdS sa a := by rw [hsa]; exact rdS_list a (by omega)
          have hrb : RdS sb r2 := by rw [hsb]; exact rdS_list r2 (by omega)
          have hsz : sr.size = r.length := hrs.size
          have hsz2 : sb.size = r2.length := hrb.size
          have PR := Lib.hid (fun wz (hz : Below w.heap.size w wz) => zset_readPair v1 sa cs a wz (R1.out wz hz) hra hC (by omega) (HL.out.later hz) (HX.out.later hz))
          have HRB := Lib.hid hrb
          have HCUT := Lib.hid (show cut2 l = (done ++ [a]) ++ (if f = true then cut2 r2 else []) from by
            rw [hcut]
            cases f <;> simp)
          have HPRE := Lib.hid hpre
          have HLE := Lib.hid hle
          clear ha hr2 hf hsa hsb hra hrb hcut hpre hle HQ hrs
          go_wp2_with fail
          refine CU.out.mono ?_
          rintro e w2 ⟨rfl, hb2⟩
          have HB2 := Lib.hid (HBw.out.trans (hb2.mono HBw.out.size))
          have HO2 := Lib.hid (HO.out.later hb2 (Nat.le_refl _))
          have HBa := Lib.hid (HB.out.trans (hb2.mono HB.out.size))
          clear hb2 CU HB HO HBw
          go_wp2_with fail
          refine (PR.out _ HB2.out).mono ?_
          rintro e w3 ⟨rv, y, rfl, hb3, ⟨ao, nn, cap, rfl⟩, hres⟩
          have NN := Lib.hid (new1 w3 (.cells #[.slice ao nn cap, .int .i64 y] 51))
          have hb3' := hb3.trans (NN.out.2.2.mono hb3.size)
          have HB3 := Lib.hid (HB2.out.trans (hb3'.mono HB2.out.size))
          have HBb := Lib.hid (HBa.out.trans (hb3'.mono HBa.out.size))
          have HO3 := Lib.hid (HO2.out.later hb3' (Nat.le_refl _))
          have HRES := Lib.hid hres
          have hg3 := NN.out.2.1
          have d0 := cell_of_row _ _ 0 _ _ _ hg3
          have d1 := cell_of_row _ _ 1 _ _ _ hg3
          simp at d0 d1
          have hn3 := NN.out.1
          have hs23 := hb3.size
          have HNB := Lib.hid NN.out.2.2
          obtain ⟨k, hk⟩ : ∃ k, k = prE cs a := ⟨_, rfl⟩
          rw [← hk] at HRES ⊢
          have HK := Lib.hid hk
          have hlt2 := fun g (hg : tx.ownBlock = some g) => (HO2.out.lt hg).2
          have HLT := Lib.hid hlt2
          clear hb3 hb3' hres hk PR hlt2 NN hg3
          by_cases hk0 : k = 0
          · subst hk0
            obtain ⟨hy, hre, hfar⟩ := HRES.out rfl
            have HPR2 := Lib.hid (show prsE cs (done ++ [a]) = 0 from by
              rw [prsE_app, HPRE.out, if_neg (by simp)]
              show (if prE cs a ≠ 0 then prE cs a else 0) = 0
              rw [if_neg (by rw [← HK.out]; simp)])
            obtain ⟨D, hD⟩ : ∃ D, D = done.map (prP cs) := ⟨_, rfl⟩
            rw [← hD] at HO3
            have hrd := HO3.out.rd (by rw [List.length_take]; omega)
            have hlen := hrd.len
            have hD2 : (done ++ [a]).map (prP cs) = D ++ [prP cs a] := by rw [List.map_append, hD]; rfl
            obtain ⟨n, hn⟩ : ∃ n, n = (D.take 1025).length := ⟨_, rfl⟩
            rw [← hn] at hlen
            rw [List.length_take] at hn
            have HD2 := Lib.hid hD2
            by_cases hful : n ≤ 1024
            · have hdl : D.length ≤ 1024 := by omega
              have hcl5 : (D.take 1025).length ≤ 1024 := by rw [List.length_take]; omega
              clear hn hD hD2
              have HO4 := Lib.hid (HO3.out.alloc (.cells #[.slice ao nn cap, .int .i64 y] 51))
              have hr3 := (hre.later HNB.out (Nat.le_refl _)).later ((Below.refl (w3.alloc (.cells #[.slice ao nn cap, .int .i64 y] 51)).heap.size _).alloc (Nat.le_refl _) (.cells #[.slice ao nn cap, .int .i64 y] 51)) (Nat.le_refl _)
              have HR4 := Lib.hid hr3
              have HF4 := Lib.hid (fun g (hg : tx.ownBlock = some g) => show offB (.slice ao nn cap) (prP cs a).1.length g from hfar g (HLT.out g hg))
              have HB4 := Lib.hid (HBb.out.alloc (by have := HBb.out.size; exact this) (.cells #[.slice ao nn cap, .int .i64 y] 51))
              have hg4 := heap_alloc_new (w3.alloc (.cells #[.slice ao nn cap, .int .i64 y] 51)) (.cells #[.slice ao nn cap, .int .i64 y] 51)
              rw [hn3] at hg4
              have HG4 := Lib.hid hg4
              clear hg4
              have hpe : prP cs a = ((prP cs a).1, y) := by rw [hy]
              have HPP := Lib.hid hpe
              have hsb3 := HBb.out.size
              have hfd : decide ((n : Int) ≤ 1024) = true := decide_eq_true (by omega)
              clear hre hfar hrd hr3 hpe hy HO2 HRES
              go_wp2_with (with_reducible refine wplP_append w1.heap.size _ ?hs HO4.out (w3.heap.size + 1) (.slice ao nn cap) ((prP cs a).1, y) ?hx HG4.out HR4.out HF4.out ?hn ?hbase w1.heap.size w1 HB4.out (Nat.le_refl _) ?_)
              case hs => rfl
              case hx => rfl
              case hn => omega
              case hbase => simp at hsb3 ⊢; omega
              intro v5 w5 ho5 hb5 _ _
              have HO5 := Lib.hid (show OwnP w5 w1.heap.size v5 (((done ++ [a]).map (prP cs)).take 1025) from by
                rw [HD2.out, ← take_more _ _ _ (by omega)]
                rw [← HPP.out] at ho5; exact ho5)
              have HB5 := Lib.hid hb5
              clear ho5 hb5 HO4 HR4 HF4 HB4 HG4 HO3 d0 d1
              go_wp2
              go_roundw
              case rel => exact ⟨done ++ [a], r2, _, f, _, rfl, rfl, rfl, Lib.hid ⟨HRB.out, by omega, HCUT.out, HPR2.out⟩, HO5, HB5⟩
              case measure =>
                have := HLE.out
                cases f
                · simp [boolN, strN]
                · have := this rfl; simp [boolN, strN]; omega
            · have hfd : decide ((n : Int) ≤ 1024) = false := decide_eq_false (by omega)
              have hdl : 1025 ≤ D.length := by omega
              clear hn hD hD2
              have HO5 := Lib.hid (show OwnP (w3.alloc (.cells #[.slice ao nn cap, .int .i64 y] 51)) w1.heap.size tx (((done ++ [a]).map (prP cs)).take 1025) from by
                rw [HD2.out, ← take_full _ _ _ (by omega)]; exact HO3.out)
              clear hre hfar hrd hy HO2 HRES HO3
              go_wp2
              go_roundw
              case rel => exact ⟨done ++ [a], r2, _, f, _, rfl, rfl, rfl, Lib.hid ⟨HRB.out, by omega, HCUT.out, HPR2.out⟩, HO5, HBb⟩
              case measure =>
                have := HLE.out
                cases f
                · simp [boolN, strN]
                · have := this rfl; simp [boolN, strN]; omega
          · have q : ((k : Int) != 0) = true := by rw [bne_iff_ne]; omega
            have HPQ := Lib.hid (show prsE cs (cut2 l) = k from by
              rw [HCUT.out, prsE_app, prsE_app, HPRE.out]
              have e : prsE cs [a] = k := by
                show (if prE cs a ≠ 0 then prE cs a else 0) = k
                rw [← HK.out, if_pos hk0]
              rw [if_neg (show ¬ (0 ≠ 0) by simp), e, if_pos hk0])
            have HE2 := Lib.hid (show rdZe cs l = k from by rw [HE.out, HPQ.out, if_pos hk0])
            have HO9 := Lib.hid (show rdZo cs l = [] from by unfold rdZo; rw [if_neg (fun h => hk0 (by rw [← HE2.out]; exact h.2))])
            go_wp2
            go_ret2
            exact ⟨_, by rw [HE2.out]; rfl, by rw [HO9.out]; exact RdP.nil _, HB3.out⟩
        | false =>
          obtain ⟨hrs, hrl, hcut, hpre⟩ := HQ.out
          rw [if_neg (by simp), List.append_nil] at hcut
          have hrd := HO.out.rd (by rw [List.length_take]; omega)
          have CZ := Lib.hid (zset_Check v1 _ cs _ wr (R1.out _ HBw.out) hrd hC (fun p hp => prs_pso cs done p (List.mem_of_mem_take hp)) (HL.out.l3.tabs.later HBw.out))
          rw [chkZ_more] at CZ
          have HE2 := Lib.hid (show rdZe cs l = chkZ cs (done.map (prP cs)) from by rw [HE.out, hcut, hpre, if_neg (by simp)])
          have HCUT := Lib.hid hcut
          have HRD := Lib.hid hrd
          obtain ⟨c, hc⟩ : ∃ c, c = chkZ cs (done.map (prP cs)) := ⟨_, rfl⟩
          rw [← hc] at CZ HE2
          have HCC := Lib.hid hc
          clear hrs hrl hcut hpre hrd hc HQ HO
          by_cases hc0 : c = 0
          · subst hc0
            have HF := Lib.hid (show rdZo cs l = (done.map (prP cs)).take 1025 from by
              have hlen := ((chkZ_zero (prs_pso cs done)).1 HCC.out.symm).2.1
              unfold rdZo
              rw [if_pos ⟨HM.out, HE2.out⟩, HCUT.out, List.take_of_length_le (by omega)])
            go_wp2_with fail
            refine CZ.out.mono ?_
            rintro e w3 ⟨rfl, hb3⟩
            have HB3 := Lib.hid (HBw.out.trans (hb3.mono HBw.out.size))
            have HR3 := Lib.hid (HRD.out.later hb3 (Nat.le_refl _))
            clear hb3 CZ HRD
            go_wp2
            go_ret2
            exact ⟨_, by rw [HE2.out]; rfl, by rw [HF.out]; exact HR3.out, HB3.out⟩
          · have q : ((c : Int) != 0) = true := by rw [bne_iff_ne]; omega
            have HF := Lib.hid (show rdZo cs l = [] from by unfold rdZo; rw [if_neg (fun h => hc0 (by rw [← HE2.out]; exact h.2))])
            go_wp2_with fail
            refine CZ.out.mono ?_
            rintro e w3 ⟨rfl, hb3⟩
            have HB3 := Lib.hid (HBw.out.trans (hb3.mono HBw.out.size))
            clear hb3 CZ HRD
            go_wp2
            go_ret2
            exact ⟨_, by rw [HE2.out]; rfl, by rw [HF.out]; exact RdP.nil _, HB3.out⟩
  · have HE := Lib.hid (show rdZe cs l = x from by unfold rdZe; rw [if_pos (by omega), hx])
    have HO := Lib.hid (show rdZo cs l = [] from by unfold rdZo; rw [if_neg (by rw [HE.out]; exact fun h => h0 h.2)])
    have q : ((x : Int) != 0) = true := by rw [bne_iff_ne]; omega
    clear hx hd
    go_enter Tryz.func26, Tryz.ntmps26
    go_wp2_with fail
    refine SC.out.mono ?_
    rintro e w1 ⟨rfl, hb⟩
    have HB1 := Lib.hid hb
    clear hb SC
    go_wp2
    go_ret2
    exact ⟨_, by rw [HE.out]; rfl, by rw [HO.out]; exact RdP.nil _, HB1.out⟩

end Go.Proofs.YtfpidkcdgebnpaaGreatDoor

