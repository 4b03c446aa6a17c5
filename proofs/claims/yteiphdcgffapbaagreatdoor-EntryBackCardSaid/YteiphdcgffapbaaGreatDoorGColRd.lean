/-
  Package column: texts off a reader.
-/
import Derived.Test.YteiphdcgffapbaaGreatDoorGColTk
import Derived.Test.YteiphdcgffapbaaGreatDoorGCell
import Derived.Test.YteiphdcgffapbaaGreatDoorGColCw
import Derived.Test.YteiphdcgffapbaaGreatDoorGRdr
set_option linter.unusedVariables false
set_option linter.unusedSimpArgs false
set_option maxRecDepth 1000000
namespace Go.Proofs.YteiphdcgffapbaaGreatDoor
open Go.RowKit

set_option maxHeartbeats 16000000 in
theorem column_takeEach (nf : Nat) (hnf : ∀ (args : Array Value) (u : World), (callFunc nf args).run Tryz.prog u = .ok (.enter nf args) u) (fit : List UInt8 → Bool) (g : Nat) (v : Value) (l : List UInt8) (k0 : Nat) (n : Nat) (w : World) (kind : Int) (hk : kind = 3 ∨ kind = 4)
    (hfit : ∀ t, fit t = true ↔ ¬ (kind = 4 ∧ utf8 t = false)) (hR : Rdr w g v l k0) (hn : n ≤ 1024)
    (hf : ∀ wz s t, Only (fun j => j = g) w wz → RdS s t → Calls Tryz.prog nf #[.string s] wz fun e w' => e = .returned (.bool (fit t)) ∧ Below wz.heap.size wz w') :
    Calls Tryz.prog 159 #[.pointer (some ⟨g, 0, none⟩), .int .i64 (n : Int), .func (.func nf) #[] #[]] w (Took9 w g v l (rdN l kind n (0, []) [] k0)) := by
  obtain ⟨R, hRR⟩ : ∃ R, R = rdN l kind n (0, []) [] k0 := ⟨_, rfl⟩
  rw [← hRR]
  have HRR := Lib.hid hRR
  have HG := Lib.hid hR.lt
  have HVB := Lib.hid (fun i (hi : i < l.length) => hR.rd.block hi)
  have HO0 := Lib.hid (Only.refl (fun j => j = g) w)
  have HR0 := Lib.hid hR
  have HK := Lib.hid hk
  have HF := Lib.hid hf
  have HFt := Lib.hid hfit
  clear hRR hR hk hf hfit
  go_enter Tryz.func159, Tryz.ntmps159
  go_wp2
  go_loopw [7, 8, 10] (fun b a i wr => ∃ (j k : Nat) (cs : List CellB) (ps : ByteArray) (pl : List UInt8), j ≤ n ∧ i = .int .i64 j ∧ a = .string ps ∧ Hid (RdS ps pl ∧ pl.length ≤ 256) ∧ Hid (cs.length = j) ∧ Hid (Only (fun j => j = g) w wr) ∧ Hid (Rdr wr g v l k) ∧ Hid (OwnE wr w.heap.size b cs) ∧ Hid (CES cs) ∧ Hid (R = rdN l kind (n - j) (0, pl) (cesL cs) k)) (fun _ _ i _ => n - (intOf i).toNat)
  case atStart => exact ⟨0, k0, [], _, [], by omega, rfl, rfl, Lib.hid ⟨⟨rfl, by simp⟩, by simp⟩, Lib.hid rfl, HO0, HR0, Lib.hid (OwnE.nil _ _), Lib.hid CES.nil, HRR⟩
  case round =>
    clear HO0 HR0 HRR
    obtain ⟨j, k, cs, ps, pl, hj, rfl, rfl, HP, HL, HO, HR, HW, HC, HE⟩ := hrel
    by_cases hlt : j < n
    · have d1 : decide ((j : Int) < (n : Int)) = true := decide_eq_true (by omega)
      have hkl := HR.out.le
      have hsl := HR.out.rd.small
      have hrd := rd1_rdT (l := l) (i := cs.length) (k := k) (p := (0, pl)) HK.out
      have hts := rdT_size (l := l) (k := k) hkl HP.out.2
      have CN := Lib.hid (column_takeNext g v l k wr HR.out ps pl HP.out.1 HP.out.2)
      dsimp only at hrd
      rcases hr : rdT l pl k with ⟨t, k1, x1⟩
      rw [hr] at hrd hts CN
      dsimp only at hrd hts
      have HRD := Lib.hid hrd
      have HNx := Lib.hid (show R = rdN l kind ((n - (j + 1)) + 1) (0, pl) (cesL cs) k from by rw [HE.out, show n - j = (n - (j + 1)) + 1 from by omega])
      clear hrd hr hkl
      go_wp2_with fail
      refine CN.out.mono ?_
      rintro e w1 ⟨hg1, ⟨hx, s, rfl, hs, hR1⟩ | ⟨hx, rfl, hEn⟩⟩
      · dsimp only at hx hs hR1
        subst hx
        have HO1 := Lib.hid (HO.out.grown hg1 rfl)
        have HR1 := Lib.hid hR1
        have HW1 := Lib.hid (HW.out.grown hg1 (fun q hq => by have := (OwnE.lt HW.out hq).1; have := HG.out; intro e; injection e with e; omega))
        have HS := Lib.hid hs
        have hent := hnf #[.string s]
        clear hg1 hR1 hs HO HR HW CN
        go_wp2_with fail
        refine (HF.out w1 s t HO1.out HS.out).mono ?_
        rintro e w2 ⟨rfl, hb⟩
        have HO2 := Lib.hid (HO1.out.below hb (Nat.le_refl _))
        have HR2 := Lib.hid (HR1.out.later hb (Nat.le_refl _))
        have HW2 := Lib.hid (HW1.out.later hb (Nat.le_refl _))
        clear hb HO1 HR1 HW1 hent
        by_cases hu : kind = 4 ∧ utf8 t = false
        · have hfa : fit t = false := by
            cases h : fit t with
            | false => rfl
            | true => exact absurd hu ((HFt.out t).1 h)
          rw [hfa]
          have hF : R = ([], k1, 11) := by
            rw [HNx.out]
            exact rdN_end (c := (0, [])) (by rw [cesL_length, HRD.out, if_neg (by simp), if_pos hu]) (by decide)
          have HFF := Lib.hid hF
          clear hfa hF hu
          go_wp2_with fail
          refine (reader_Must_no g v l k1 w2 HR2.out 11 (by decide)).mono ?_
          rintro e w3 ⟨rfl, hg3, hE3⟩
          have HFin := Lib.hid (show Took9 w g v l R (.panicked [{ v := stopOf g 11, recovered := false }]) w3 from ⟨HO2.out.grown hg3 rfl, .inr ⟨by rw [HFF.out]; show (11 : Nat) ≠ 0; decide, by rw [HFF.out], by rw [HFF.out]; exact hE3⟩⟩)
          clear hg3 hE3
          go_wp2
          exact ⟨rfl, HFin.out⟩
        · rw [(HFt.out t).2 hu]
          have hs1 : rd1 l kind (cesL cs).length (0, pl) k = ((0, t), k1, 0) := by rw [cesL_length, HRD.out, if_neg (by simp), if_neg hu]
          have HS1 := Lib.hid hs1
          have hsz : s.size ≤ 256 := by rw [HS.out.size9]; exact hts
          clear hu hs1
          go_wp2_with fail
          refine (reader_Must_ok _ _ _).mono ?_
          rintro e w3 ⟨rfl, rfl⟩
          have HB7 := Lib.hid (show Below w.heap.size w2 (w2.alloc (.cells #[.int .u64 0, .string s] 60)) from (Below.refl _ _).alloc HO2.out.size _)
          have h1c := Lib.hid (show ∀ j z, (cellVs (0, s))[j]? = some z → (w2.alloc (.cells #[.int .u64 0, .string s] 60)).cell? (Addr.add ⟨w2.heap.size, 0, none⟩ j) = some z from one_cellv w2 (0, s))
          have HW7 := Lib.hid (HW2.out.alloc (.cells #[.int .u64 0, .string s] 60))
          go_wp2_with (with_reducible refine wplE_append w.heap.size _ ?hs HW7.out ⟨w2.heap.size, 0, none⟩ (0, s) ?hx h1c.out ?hn ?hbase w.heap.size w2 HB7.out (Nat.le_refl _) ?_)
          case hs => rfl
          case hx => rfl
          case hn => rw [HL.out]; omega
          case hbase => rw [World.size_alloc]; have := HO2.out.size; omega
          intro v8 w8 hW8 hB8 hg8
          have hta := took_append HG.out HVB.out HO2.out HR2.out HW2.out hB8
          have HO8 := Lib.hid hta.1
          have HR8 := Lib.hid hta.2
          have HW8 := Lib.hid hW8
          have HC8 := Lib.hid (HC.out.snoc (c := (0, s)) ⟨by show (0 : Nat) < 18446744073709551616; decide, by dsimp only; omega⟩)
          have HL8 := Lib.hid (show (cs ++ [((0, s) : CellB)]).length = j + 1 by rw [List.length_append, List.length_singleton, HL.out])
          have HK8 := Lib.hid (show R = rdN l kind (n - (j + 1)) (0, t) (cesL (cs ++ [((0, s) : CellB)])) k1 from by
            rw [HNx.out, rdN_go HS1.out, cesL_snoc9]
            unfold ceL
            rw [HS.out.dl])
          have HP8 := Lib.hid (show RdS s t ∧ t.length ≤ 256 from ⟨HS.out, hts⟩)
          clear hta hW8 hB8 hg8 HO2 HR2 HW2 HB7 HW7 hsz h1c
          go_wp2
          go_roundw
          case rel => exact ⟨j + 1, k1, _, s, t, by omega, by go_num, rfl, HP8, HL8, HO8, HR8, HW8, HC8, HK8⟩
          case measure => simp [intOf]; omega
      · dsimp only at hx hEn ⊢
        have hF : R = ([], k1, x1) := by
          rw [HNx.out]
          exact rdN_end (c := (0, [])) (by rw [cesL_length, HRD.out, if_pos hx]) hx
        have HFin := Lib.hid (show Took9 w g v l R (.panicked [{ v := stopOf g x1, recovered := false }]) w1 from ⟨HO.out.grown hg1 rfl, .inr ⟨by rw [hF]; exact hx, by rw [hF], by rw [hF]; exact hEn⟩⟩)
        clear hg1 hEn hF
        go_wp2
        exact ⟨rfl, HFin.out⟩
    · obtain rfl : j = n := by omega
      have d1 : decide ((j : Int) < (j : Int)) = false := decide_eq_false (by omega)
      have hF : R = (cesL cs, k, 0) := by rw [HE.out, Nat.sub_self, rdN]
      have HFin := Lib.hid (show Took9 w g v l R (.returned u7) wr from ⟨HO.out, .inl ⟨by rw [hF], u7, cs, rfl, HW.out, HC.out, by rw [hF], by rw [hF]; exact HR.out⟩⟩)
      clear hF hlt
      go_wp2
      go_ret
      exact HFin.out

theorem enters_bytes1 (args : Array Value) (u : World) : (callFunc 160 args).run Tryz.prog u = .ok (.enter 160 args) u := enters9 Tryz.func160 (by kernel_rfl) rfl args u
theorem enters_valid (args : Array Value) (u : World) : (callFunc 154 args).run Tryz.prog u = .ok (.enter 154 args) u := enters9 Tryz.func154 (by kernel_rfl) rfl args u

theorem column_bytes1 (v : Value) (w : World) : Calls Tryz.prog 160 #[v] w fun e w' => e = .returned (.bool true) ∧ Below w.heap.size w w' := by
  go_enter Tryz.func160, Tryz.ntmps160
  go_wp2
  go_ret
  exact ⟨rfl, Below.refl _ _⟩

theorem column_takeBytes (g : Nat) (v : Value) (l : List UInt8) (k : Nat) (n : Nat) (w : World) (hR : Rdr w g v l k) (hn : n ≤ 1024) :
    Calls Tryz.prog 135 #[.pointer (some ⟨g, 0, none⟩), .int .i64 (n : Int)] w (Took9 w g v l (rdN l 3 n (0, []) [] k)) := by
  have HA := Lib.hid (column_takeEach _ enters_bytes1 (fun _ => true) g v l k n w 3 (.inl rfl) (fun t => ⟨fun _ h => absurd h.1 (by decide), fun _ => rfl⟩) hR hn (fun wz s t _ _ => column_bytes1 _ wz))
  clear hR
  go_enter Tryz.func135, Tryz.ntmps135
  go_wp2_with fail
  refine HA.out.mono ?_
  rintro e w1 ⟨hO, ⟨hx, tv, cs, rfl, h1, h2, h3, h4⟩ | ⟨hx, rfl, hE⟩⟩
  · have HF := Lib.hid (show Took9 w g v l (rdN l 3 n (0, []) [] k) (.returned tv) w1 from ⟨hO, .inl ⟨hx, tv, cs, rfl, h1, h2, h3, h4⟩⟩)
    clear hO hx h1 h2 h3 h4 HA
    go_wp2
    go_ret
    exact HF.out
  · have HF := Lib.hid (show Took9 w g v l (rdN l 3 n (0, []) [] k) (.panicked [{ v := stopOf g (rdN l 3 n (0, []) [] k).2.2, recovered := false }]) w1 from ⟨hO, .inr ⟨hx, rfl, hE⟩⟩)
    clear hO hx hE HA
    go_wp2
    exact ⟨rfl, HF.out⟩

theorem column_takeTexts (g : Nat) (v : Value) (l : List UInt8) (k : Nat) (n : Nat) (w : World) (hR : Rdr w g v l k) (hn : n ≤ 1024) (hT : Tabs w) (hg : tabTop ≤ g) :
    Calls Tryz.prog 136 #[.pointer (some ⟨g, 0, none⟩), .int .i64 (n : Int)] w (Took9 w g v l (rdN l 4 n (0, []) [] k)) := by
  have hgl := hR.lt
  have HA := Lib.hid (column_takeEach _ enters_valid utf8 g v l k n w 4 (.inr rfl) (fun t => ⟨fun h h2 => by rw [h] at h2; exact absurd h2.2 (by decide), fun h => by cases hu : utf8 t with
      | true => rfl
      | false => exact absurd ⟨rfl, hu⟩ h⟩) hR hn (fun wz s t hO hs => lib_Valid s t wz hs (tabs_only hT (fun j hj => hO.block j (by omega) (by omega)))))
  clear hR
  go_enter Tryz.func136, Tryz.ntmps136
  go_wp2_with fail
  refine HA.out.mono ?_
  rintro e w1 ⟨hO, ⟨hx, tv, cs, rfl, h1, h2, h3, h4⟩ | ⟨hx, rfl, hE⟩⟩
  · have HF := Lib.hid (show Took9 w g v l (rdN l 4 n (0, []) [] k) (.returned tv) w1 from ⟨hO, .inl ⟨hx, tv, cs, rfl, h1, h2, h3, h4⟩⟩)
    clear hO hx h1 h2 h3 h4 HA
    go_wp2
    go_ret
    exact HF.out
  · have HF := Lib.hid (show Took9 w g v l (rdN l 4 n (0, []) [] k) (.panicked [{ v := stopOf g (rdN l 4 n (0, []) [] k).2.2, recovered := false }]) w1 from ⟨hO, .inr ⟨hx, rfl, hE⟩⟩)
    clear hO hx hE HA
    go_wp2
    exact ⟨rfl, HF.out⟩

end Go.Proofs.YteiphdcgffapbaaGreatDoor


/-
  Package column: Take, Read.
-/
namespace Go.Proofs.YteiphdcgffapbaaGreatDoor
open Go.RowKit

/-- Why cells may not be taken at all. -/
def takeE (kind n : Int) : Nat := if kind < 0 ∨ 5 < kind then 10 else if n < 0 ∨ 1024 < n then 3 else 0

theorem column_checkTake (kind n : Int) (w : World) (hT : Tabs w) :
    Calls Tryz.prog 110 #[.int .i64 kind, .int .i64 n] w fun e w' => e = .returned (.int .i64 (takeE kind n : Nat)) ∧ Below w.heap.size w w' := by
  have CKd := Lib.hid (column_checkKind kind w hT)
  by_cases hk : kind < 0 ∨ 5 < kind
  · rw [if_pos hk] at CKd
    rw [show takeE kind n = 10 from by unfold takeE; rw [if_pos hk]]
    clear hk hT
    go_enter Tryz.func110, Tryz.ntmps110
    go_wp2_with fail
    refine CKd.out.mono ?_
    rintro e w1 ⟨rfl, hb⟩
    have HB := Lib.hid hb
    clear hb CKd
    go_wp2
    go_ret
    exact ⟨rfl, HB.out⟩
  · rw [if_neg hk] at CKd
    by_cases h1 : n < 0
    · have d1 : decide (n < 0) = true := decide_eq_true h1
      rw [show takeE kind n = 3 from by unfold takeE; rw [if_neg hk, if_pos (.inl h1)]]
      clear hk h1 hT
      go_enter Tryz.func110, Tryz.ntmps110
      go_wp2_with fail
      refine CKd.out.mono ?_
      rintro e w1 ⟨rfl, hb⟩
      have HB := Lib.hid hb
      clear hb CKd
      go_wp2
      go_ret
      exact ⟨rfl, HB.out⟩
    · have d1 : decide (n < 0) = false := decide_eq_false h1
      by_cases h2 : 1024 < n
      · have d2 : decide (n > 1024) = true := decide_eq_true h2
        rw [show takeE kind n = 3 from by unfold takeE; rw [if_neg hk, if_pos (.inr h2)]]
        clear hk h1 h2 hT
        go_enter Tryz.func110, Tryz.ntmps110
        go_wp2_with fail
        refine CKd.out.mono ?_
        rintro e w1 ⟨rfl, hb⟩
        have HB := Lib.hid hb
        clear hb CKd
        go_wp2
        go_ret
        exact ⟨rfl, HB.out⟩
      · have d2 : decide (n > 1024) = false := decide_eq_false h2
        rw [show takeE kind n = 0 from by unfold takeE; rw [if_neg hk, if_neg (by omega)]]
        clear hk h1 h2 hT
        go_enter Tryz.func110, Tryz.ntmps110
        go_wp2_with fail
        refine CKd.out.mono ?_
        rintro e w1 ⟨rfl, hb⟩
        have HB := Lib.hid hb
        clear hb CKd
        go_wp2
        go_ret
        exact ⟨rfl, HB.out⟩

theorem column_taker (kind n : Int) (h0 : takeE kind n = 0) (g : Nat) (v : Value) (l : List UInt8) (k : Nat) (w : World) (hR : Rdr w g v l k) (hT : Tabs w) (hg : tabTop ≤ g) :
    Calls Tryz.prog (codecT kind) #[.pointer (some ⟨g, 0, none⟩), .int .i64 n] w (Took9 w g v l (rdK l kind n k)) := by
  unfold takeE at h0
  have hk : 0 ≤ kind ∧ kind ≤ 5 := by
    by_cases h : kind < 0 ∨ 5 < kind
    · rw [if_pos h] at h0; cases h0
    · omega
  rw [if_neg (by omega)] at h0
  have hn : 0 ≤ n ∧ n ≤ 1024 := by
    by_cases h : n < 0 ∨ 1024 < n
    · rw [if_pos h] at h0; cases h0
    · omega
  obtain ⟨m, rfl⟩ : ∃ m : Nat, n = (m : Int) := ⟨n.toNat, by omega⟩
  unfold rdK
  rw [if_neg (by omega), if_neg (by omega), Int.toNat_natCast]
  obtain rfl | rfl | rfl | rfl | rfl | rfl : kind = 0 ∨ kind = 1 ∨ kind = 2 ∨ kind = 3 ∨ kind = 4 ∨ kind = 5 := by omega
  · exact column_takeInts g v l k m w hR (by omega)
  · exact column_takeUints 1 (.inl rfl) g v l k m w hR (by omega)
  · exact column_takeBools g v l k m w hR (by omega)
  · exact column_takeBytes g v l k m w hR (by omega)
  · exact column_takeTexts g v l k m w hR (by omega) hT hg
  · exact column_takeUints 5 (.inr rfl) g v l k m w hR (by omega)

theorem rdK_no {l : List UInt8} {kind n : Int} {k : Nat} (h : takeE kind n ≠ 0) : rdK l kind n k = ([], k, takeE kind n) := by
  unfold takeE at h ⊢
  unfold rdK
  by_cases h1 : kind < 0 ∨ 5 < kind
  · rw [if_pos h1, if_pos h1]
  · rw [if_neg h1] at h ⊢
    rw [if_neg h1]
    by_cases h2 : n < 0 ∨ 1024 < n
    · rw [if_pos h2, if_pos h2]
    · rw [if_neg h2] at h; exact absurd rfl h

set_option maxHeartbeats 4000000 in
theorem column_Take (kind n : Int) (g : Nat) (v : Value) (l : List UInt8) (k : Nat) (w : World) (hR : Rdr w g v l k) (hT : Tabs w) (hg : tabTop ≤ g) :
    Calls Tryz.prog 80 #[.pointer (some ⟨g, 0, none⟩), .int .i64 kind, .int .i64 n] w (Took9 w g v l (rdK l kind n k)) := by
  have CT := Lib.hid (column_checkTake kind n w hT)
  have HR := Lib.hid hR
  have HT := Lib.hid hT
  have HG := Lib.hid hg
  obtain ⟨R, hRR⟩ : ∃ R, R = rdK l kind n k := ⟨_, rfl⟩
  rw [← hRR]
  have HRR := Lib.hid hRR
  clear hR hT hg hRR
  by_cases h0 : takeE kind n = 0
  · have hkd : 0 ≤ kind ∧ kind ≤ 5 := by
      unfold takeE at h0
      by_cases h : kind < 0 ∨ 5 < kind
      · rw [if_pos h] at h0; cases h0
      · omega
    have HKd := Lib.hid hkd
    have H0 := Lib.hid h0
    rw [h0] at CT
    obtain ⟨nf, hnf⟩ : ∃ nf, nf = codecT kind := ⟨_, rfl⟩
    have hent := enters_codecT kind #[.pointer (some ⟨g, 0, none⟩), .int .i64 n]
    rw [← hnf] at hent
    have HNF := Lib.hid hnf
    obtain ⟨nw, hnw⟩ : ∃ nw, nw = codecW kind := ⟨_, rfl⟩
    have HNW := Lib.hid hnw
    have hfd : ∀ u, (Instr.field 152 (.agg #[.func (.func nw) #[] #[], .func (.func nf) #[] #[]]) 1).run Tryz.prog u = .ok (.func (.func nf) #[] #[]) u := fun _ => by kernel_rfl
    clear hkd h0 hnf hnw
    go_enter Tryz.func80, Tryz.ntmps80
    go_wp2_with fail
    refine CT.out.mono ?_
    rintro e w1 ⟨rfl, hb⟩
    have HB1 := Lib.hid hb
    clear hb CT
    have CD := Lib.hid (column_codecOf kind HKd.out w1)
    rw [← HNF.out, ← HNW.out] at CD
    go_wp2_with fail
    refine CD.out.mono ?_
    rintro e w2 ⟨rfl, hb⟩
    have HB2 := Lib.hid (HB1.out.trans (hb.mono HB1.out.size))
    have CK := Lib.hid (column_taker kind n H0.out g v l k w2 (HR.out.later HB2.out (Nat.le_refl _)) (HT.out.later HB2.out) HG.out)
    rw [← HNF.out, ← HRR.out] at CK
    clear hb CD HB1
    go_wp2_with fail
    refine CK.out.mono ?_
    rintro e w3 ⟨hO, ⟨hx, tv, cs, rfl, h1, h2, h3, h4⟩ | ⟨hx, rfl, hE⟩⟩
    · have HF := Lib.hid (show Took9 w g v l R (.returned tv) w3 from ⟨((Only.refl _ w).below HB2.out (Nat.le_refl _)).trans hO, .inl ⟨hx, tv, cs, rfl, h1.lower HB2.out.size, h2, h3, h4⟩⟩)
      clear hO hx h1 h2 h3 h4 CK hent hfd
      go_wp2
      go_ret
      exact HF.out
    · have HF := Lib.hid (show Took9 w g v l R (.panicked [{ v := stopOf g R.2.2, recovered := false }]) w3 from ⟨((Only.refl _ w).below HB2.out (Nat.le_refl _)).trans hO, .inr ⟨hx, rfl, hE⟩⟩)
      clear hO hx hE CK hent hfd
      go_wp2
      exact ⟨rfl, HF.out⟩
  · have hF := rdK_no (l := l) (k := k) h0
    obtain ⟨y, hy⟩ : ∃ y, y = takeE kind n := ⟨_, rfl⟩
    rw [← hy] at CT hF h0
    have hyb : ((y : Int) != 0) = true := by rw [bne_iff_ne]; omega
    have HF := Lib.hid (HRR.out.trans hF)
    have HY0 := Lib.hid h0
    clear h0 hF hy
    go_enter Tryz.func80, Tryz.ntmps80
    go_wp2_with fail
    refine CT.out.mono ?_
    rintro e w1 ⟨rfl, hb⟩
    have HB1 := Lib.hid hb
    clear hb CT
    go_wp2_with fail
    refine (reader_Must_no g v l k w1 (HR.out.later HB1.out (Nat.le_refl _)) y HY0.out).mono ?_
    rintro e w3 ⟨rfl, hg3, hE3⟩
    have HFin := Lib.hid (show Took9 w g v l R (.panicked [{ v := stopOf g y, recovered := false }]) w3 from ⟨((Only.refl _ w).below HB1.out (Nat.le_refl _)).grown hg3 rfl, .inr ⟨by rw [HF.out]; exact HY0.out, by rw [HF.out], by rw [HF.out]; exact hE3⟩⟩)
    clear hg3 hE3
    go_wp2
    exact ⟨rfl, HFin.out⟩

end Go.Proofs.YteiphdcgffapbaaGreatDoor

