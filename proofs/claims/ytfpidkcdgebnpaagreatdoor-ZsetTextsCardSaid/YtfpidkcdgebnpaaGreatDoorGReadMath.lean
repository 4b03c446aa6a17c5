/-
  Package cell: Text and Read undo each other (no program in it but the contracts' own functions).
-/
import Derived.Test.YtfpidkcdgebnpaaGreatDoorGParse
import Derived.Test.YtfpidkcdgebnpaaGreatDoorGHex
set_option linter.unusedVariables false
set_option linter.unusedSimpArgs false
set_option maxRecDepth 1000000
namespace Go.Proofs.YtfpidkcdgebnpaaGreatDoor
open Go.RowKit Go.Shelf

theorem dec_head (u : Nat) : ∃ c r, dec u = c :: r ∧ 48 ≤ c.toNat ∧ c.toNat ≤ 57 := by
  induction u using Nat.strongRecOn with
  | _ u ih =>
    by_cases h : u < 10
    · refine ⟨UInt8.ofNat (48 + u), [], dec_lo h, ?_, ?_⟩ <;> rw [UInt8.toNat_ofNat'] <;> omega
    · obtain ⟨c, r, h1, h2, h3⟩ := ih (u / 10) (by omega)
      exact ⟨c, r ++ [UInt8.ofNat (48 + u % 10)], by rw [dec_hi h, h1]; rfl, h2, h3⟩

theorem pu_digit {M acc d : Nat} {r : List UInt8} (hd : d < 10) (ha : acc < 1844674407370955162) (hM : acc * 10 + d ≤ M) : Lib.parseUintM M acc (UInt8.ofNat (48 + d) :: r) = Lib.parseUintM M (acc * 10 + d) r := by
  have e : (UInt8.ofNat (48 + d)).toNat = 48 + d := by rw [UInt8.toNat_ofNat']; omega
  rw [Lib.parseUintM, e, if_pos (by omega), if_neg (by omega), show 48 + d - 48 = d from by omega, if_neg (by omega)]

theorem pu_dec (M : Nat) : ∀ (u : Nat) (r : List UInt8), u < 18446744073709551616 → u ≤ M → Lib.parseUintM M 0 (dec u ++ r) = Lib.parseUintM M u r := by
  intro u
  induction u using Nat.strongRecOn with
  | _ u ih =>
    intro r h1 h2
    by_cases h : u < 10
    · rw [dec_lo h, List.singleton_append, pu_digit h (by omega) (by omega)]
      simp
    · rw [dec_hi h, List.append_assoc, List.singleton_append, ih (u / 10) (by omega) _ (by omega) (by omega), pu_digit (by omega) (by omega) (by omega), show u / 10 * 10 + u % 10 = u from by omega]

theorem pu_ok (u : Nat) (h : u < 18446744073709551616) : Lib.parseUintB 64 (dec u) = .ok u := by
  have h1 := pu_dec (2 ^ 64 - 1) u [] h (by omega)
  rw [List.append_nil] at h1
  unfold Lib.parseUintB
  obtain ⟨c, r, e, _, _⟩ := dec_head u
  rw [if_neg (by rw [e]; exact List.cons_ne_nil _ _), h1, Lib.parseUintM]

theorem pi_ok (v : Int) (h1 : -9223372036854775808 ≤ v) (h2 : v ≤ 9223372036854775807) : Lib.parseIntB 64 (sdec v) = .ok v := by
  unfold sdec
  by_cases hv : v < 0
  · rw [if_pos hv]
    have h := pu_ok (-v).toNat (by omega)
    unfold Lib.parseIntB
    have e45 : (45 : UInt8).toNat = 45 := rfl
    simp only [e45, or_true, if_true, h]
    rw [if_neg (by simp), if_neg (by omega)]
    congr 1
    omega
  · rw [if_neg hv]
    have h := pu_ok v.toNat (by omega)
    obtain ⟨c, r, e, c1, c2⟩ := dec_head v.toNat
    rw [e] at h ⊢
    unfold Lib.parseIntB
    have n1 : ¬ (c.toNat = 43 ∨ c.toNat = 45) := by omega
    have n2 : ¬ (c.toNat = 45) := by omega
    dsimp only
    rw [if_neg n1, h]
    dsimp only
    rw [if_neg (by omega), if_neg (by rintro ⟨a, _⟩; exact n2 a), if_neg n2]
    congr 1
    omega

theorem digX_dig {r : Nat} (h : r < 16) : digX (dig r).toNat = some r := by
  have : ∀ r : Fin 16, digX (dig r.val).toNat = some r.val := by decide
  exact this ⟨r, h⟩
theorem px_hx : ∀ (u : Nat) (r : List UInt8), u < 18446744073709551616 → parseX 0 (hx u ++ r) = parseX u r := by
  intro u
  induction u using Nat.strongRecOn with
  | _ u ih =>
    intro r h1
    by_cases h : u < 16
    · rw [hx_lo h, List.singleton_append, parseX_digit (digX_dig h), if_neg (by omega)]
      simp
    · rw [hx_hi h, List.append_assoc, List.singleton_append, ih (u / 16) (by omega) _ (by omega), parseX_digit (digX_dig (by omega)), if_neg (by omega), show u / 16 * 16 + u % 16 = u from by omega]
theorem px_zeros (r : List UInt8) : ∀ n, parseX 0 (List.replicate n 48 ++ r) = parseX 0 r
  | 0 => rfl
  | n + 1 => by
    have e : digX (48 : UInt8).toNat = some 0 := by decide
    rw [List.replicate_succ, List.cons_append, parseX_digit e, if_neg (by omega)]
    exact px_zeros r n
theorem hx_ne (u : Nat) : hx u ≠ [] := by
  by_cases h : u < 16
  · rw [hx_lo h]; exact List.cons_ne_nil _ _
  · rw [hx_hi h]; simp
theorem ph_ok (u n : Nat) (h : u < 18446744073709551616) : parseH (List.replicate n 48 ++ hx u) = .ok u := by
  unfold parseH
  rw [if_neg (by simp [hx_ne]), px_zeros]
  have := px_hx u [] h
  rw [List.append_nil] at this
  rw [this, parseX]

theorem wrap_back (x : Nat) (hx : x < 18446744073709551616) : (wrap64 (x : Int) % 18446744073709551616).toNat = x := by
  unfold wrap64
  omega

/-- What is read of a number's own text is the number. -/
theorem parN_numL (kind : Int) (hk : kind = 0 ∨ kind = 1 ∨ kind = 2 ∨ kind = 5) (x : Nat) (hx : x < 18446744073709551616) (h2 : kind = 2 → x ≤ 1) : parN kind (numL kind x) = some x := by
  rcases hk with rfl | rfl | rfl | rfl
  · obtain ⟨b1, b2⟩ := wrap_bounds x hx
    have e1 : numL 0 x = sdec (wrap64 (x : Int)) := by unfold numL; rw [if_pos rfl]
    have e0 : parN 0 (numL 0 x) = (okE (Lib.parseIntB 64 (numL 0 x))).map (fun v => (v % 18446744073709551616).toNat) := by unfold parN; rw [if_pos rfl]
    rw [e0, e1, pi_ok _ b1 b2, okE, Option.map_some, wrap_back x hx]
  · have e1 : numL 1 x = dec x := by unfold numL; rw [if_neg (by decide), if_neg (by decide), if_neg (by decide)]
    have e0 : parN 1 (numL 1 x) = okE (Lib.parseUintB 64 (numL 1 x)) := by unfold parN; rw [if_neg (by decide), if_neg (by decide), if_neg (by decide)]
    rw [e0, e1, pu_ok x hx, okE]
  · have e1 : numL 2 x = if x = 1 then [116, 114, 117, 101] else [102, 97, 108, 115, 101] := by unfold numL; rw [if_neg (by decide), if_pos rfl]
    have e0 : parN 2 (numL 2 x) = (Lib.parseBool (numL 2 x)).map (fun b => if b then 1 else 0) := by unfold parN; rw [if_neg (by decide), if_pos rfl]
    rw [e0, e1, Lib.parseBool_bytes]
    have := h2 rfl
    obtain rfl | rfl : x = 0 ∨ x = 1 := by omega
    · decide
    · decide
  · have e1 : numL 5 x = List.replicate (16 - (Go.Proofs.YtfpidkcdgebnpaaGreatDoor.hx x).length) 48 ++ Go.Proofs.YtfpidkcdgebnpaaGreatDoor.hx x := by unfold numL; rw [if_neg (by decide), if_neg (by decide), if_pos rfl]
    have e0 : parN 5 (numL 5 x) = okE (parseH (numL 5 x)) := by unfold parN; rw [if_neg (by decide), if_neg (by decide), if_pos rfl]
    rw [e0, e1, ph_ok x _ hx, okE]

theorem readN_numL (kind : Int) (hk : kind = 0 ∨ kind = 1 ∨ kind = 2 ∨ kind = 5) (x : Nat) (hx : x < 18446744073709551616) (h2 : kind = 2 → x ≤ 1) : readN kind (numL kind x) = some x := by
  unfold readN
  rw [parN_numL kind hk x hx h2, Option.bind_some, if_pos rfl]

theorem parN_lt (kind : Int) (hk : kind = 0 ∨ kind = 1 ∨ kind = 2 ∨ kind = 5) (l : List UInt8) (x : Nat) (h : parN kind l = some x) : x < 18446744073709551616 ∧ (kind = 2 → x ≤ 1) := by
  rcases hk with rfl | rfl | rfl | rfl
  · have e0 : parN 0 l = (okE (Lib.parseIntB 64 l)).map (fun v => (v % 18446744073709551616).toNat) := by unfold parN; rw [if_pos rfl]
    rw [e0] at h
    obtain ⟨v, _, hv⟩ := Option.map_eq_some_iff.1 h
    refine ⟨by rw [← hv]; omega, fun h => absurd h (by decide)⟩
  · have e0 : parN 1 l = okE (Lib.parseUintB 64 l) := by unfold parN; rw [if_neg (by decide), if_neg (by decide), if_neg (by decide)]
    rw [e0] at h
    refine ⟨?_, fun h => absurd h (by decide)⟩
    cases hp : Lib.parseUintB 64 l with
    | ok u => rw [hp] at h; simp only [okE, Option.some.injEq] at h; rw [← h]; exact parseUintB_lt hp
    | «syntax» => rw [hp] at h; cases h
    | range => rw [hp] at h; cases h
  · have e0 : parN 2 l = (Lib.parseBool l).map (fun b => if b then 1 else 0) := by unfold parN; rw [if_neg (by decide), if_pos rfl]
    rw [e0] at h
    obtain ⟨v, _, hv⟩ := Option.map_eq_some_iff.1 h
    have : x ≤ 1 := by rw [← hv]; split <;> omega
    exact ⟨by omega, fun _ => this⟩
  · have e0 : parN 5 l = okE (parseH l) := by unfold parN; rw [if_neg (by decide), if_neg (by decide), if_pos rfl]
    rw [e0] at h
    refine ⟨?_, fun h => absurd h (by decide)⟩
    cases hp : parseH l with
    | ok u =>
      rw [hp] at h; simp only [okE, Option.some.injEq] at h; rw [← h]
      unfold parseH at hp
      split at hp
      · cases hp
      · exact parseX_lt l 0 u (by omega) hp
    | «syntax» => rw [hp] at h; cases h
    | range => rw [hp] at h; cases h

theorem hexR_hexL (l : List UInt8) : hexR ((hexL l).map fun c => (digV c.toNat).toNat) = l := by
  induction l with
  | nil => rfl
  | cons b t ih =>
    have hb := b.toNat_lt
    have e : hexL (b :: t) = dig (b.toNat / 16) :: dig (b.toNat % 16) :: hexL t := rfl
    rw [e, List.map_cons, List.map_cons, hexR, ih, digV_dig (by omega), digV_dig (by omega)]
    congr 1
    have e2 : 16 * ((b.toNat / 16 : Nat) : Int).toNat + ((b.toNat % 16 : Nat) : Int).toNat = b.toNat := by omega
    rw [e2]
    exact UInt8.ofNat_toNat
theorem allD_hexL (l : List UInt8) : allD (hexL l) := by
  intro c hc
  unfold hexL at hc
  obtain ⟨b, _, hb⟩ := List.mem_flatMap.1 hc
  have := b.toNat_lt
  rcases List.mem_cons.1 hb with rfl | hb
  · exact ⟨_, by omega, rfl⟩
  · rcases List.mem_cons.1 hb with rfl | hb
    · exact ⟨_, by omega, rfl⟩
    · cases hb
theorem hexL_hexR : ∀ (n : Nat) (rs : List Nat), rs.length = 2 * n → (∀ r ∈ rs, r < 16) → hexL (hexR rs) = rs.map dig
  | 0, [], _, _ => rfl
  | n + 1, a :: b :: r, hl, h => by
    have ha := h a (by simp)
    have hb := h b (by simp)
    have e : hexL (UInt8.ofNat (16 * a + b) :: hexR r) = dig ((UInt8.ofNat (16 * a + b)).toNat / 16) :: dig ((UInt8.ofNat (16 * a + b)).toNat % 16) :: hexL (hexR r) := rfl
    have e2 : (UInt8.ofNat (16 * a + b)).toNat = 16 * a + b := by rw [UInt8.toNat_ofNat']; omega
    rw [hexR, e, e2, hexL_hexR n r (by simp at hl; omega) (fun x hx => h x (by simp [hx])), show (16 * a + b) / 16 = a from by omega, show (16 * a + b) % 16 = b from by omega]
    rfl

/-- The text of a cell. -/
def textK (kind : Int) (x : Nat) (l : List UInt8) : List UInt8 := if kind = 3 ∨ kind = 4 then hexC l else numL kind x

theorem check_zero {kind : Int} {x : Nat} {l : List UInt8} (h : checkC kind x l = 0) : (0 ≤ kind ∧ kind ≤ 5) ∧ ((kind = 3 ∨ kind = 4) → x = 0) ∧ (¬ (kind = 3 ∨ kind = 4) → l = []) ∧ (kind = 2 → x ≤ 1) ∧ (kind = 4 → utf8 l = true) ∧ l.length ≤ 256 := by
  unfold checkC at h
  split at h
  · cases h
  · split at h
    · cases h
    · split at h
      · cases h
      · rename_i h1 h2 h3
        refine ⟨by omega, fun hh => ?_, fun hh => ?_, fun hh => ?_, fun hh => ?_, by omega⟩
        · exact Decidable.byContradiction fun hn => h2 (.inl ⟨hh, hn⟩)
        · exact Decidable.byContradiction fun hn => h2 (.inr (.inl ⟨hh, hn⟩))
        · exact Decidable.byContradiction fun hn => h2 (.inr (.inr (.inl ⟨hh, by omega⟩)))
        · cases hu : utf8 l with
          | true => rfl
          | false => exact absurd (.inr (.inr (.inr ⟨hh, hu⟩))) h2
theorem check_mk {kind : Int} {x : Nat} {l : List UInt8} (hk : 0 ≤ kind ∧ kind ≤ 5) (h1 : (kind = 3 ∨ kind = 4) → x = 0) (h2 : ¬ (kind = 3 ∨ kind = 4) → l = []) (h3 : kind = 2 → x ≤ 1) (h4 : kind = 4 → utf8 l = true) (h5 : l.length ≤ 256) : checkC kind x l = 0 := by
  unfold checkC
  rw [if_neg (by omega), if_neg ?_, if_neg (by omega)]
  rintro (⟨a, b⟩ | ⟨a, b⟩ | ⟨a, b⟩ | ⟨a, b⟩)
  · exact b (h1 a)
  · exact b (h2 a)
  · have := h3 a; omega
  · rw [h4 a] at b; cases b

theorem bytesV_hexC (kind : Int) (hk : kind = 3 ∨ kind = 4) (l : List UInt8) (h4 : kind = 4 → utf8 l = true) (hl : l.length ≤ 256) : bytesV kind (hexC l) = (some l, 0) := by
  unfold hexC bytesV
  by_cases h0 : l = []
  · rw [if_pos h0, if_pos rfl, h0]
  · have e := hexL_len l
    have hpos : 0 < l.length := List.length_pos_iff.2 h0
    have n1 : hexL l ≠ [45] := fun hh => by rw [hh] at e; simp at e; omega
    have n2 : ¬ (hexL l = [] ∨ (hexL l).length % 2 = 1 ∨ ¬ allD (hexL l)) := by
      rintro (hh | hh | hh)
      · rw [hh] at e; simp at e; omega
      · omega
      · exact hh (allD_hexL l)
    have hi : isOfC kind 0 l = true := by
      unfold isOfC
      rcases hk with rfl | rfl
      · rfl
      · rw [if_neg (by decide), if_pos rfl, h4 rfl]; rfl
    rw [if_neg h0, if_neg n1, if_neg n2, if_neg (by omega), hexR_hexL, if_pos hi]

/-- What is read of a cell's text is the cell. -/
theorem readV_textK (kind : Int) (x : Nat) (l : List UInt8) (hx : x < 18446744073709551616) (h : checkC kind x l = 0) : readV kind (textK kind x l) = (some (x, l), 0) := by
  obtain ⟨hk, h1, h2, h3, h4, h5⟩ := check_zero h
  unfold readV textK
  rw [if_neg (by simpa using hk)]
  by_cases h34 : kind = 3 ∨ kind = 4
  · rw [if_pos h34, if_pos h34, bytesV_hexC kind h34 l h4 h5, h1 h34]; rfl
  · rw [if_neg h34, if_neg h34, readN_numL kind (by omega) x hx h3, h2 h34]

theorem bytesV_some (kind : Int) (hk : kind = 3 ∨ kind = 4) (s b : List UInt8) (k : Nat) (h : bytesV kind s = (some b, k)) : k = 0 ∧ hexC b = s ∧ (kind = 4 → utf8 b = true) ∧ b.length ≤ 256 := by
  unfold bytesV at h
  split at h
  · rename_i hs
    obtain ⟨rfl, rfl⟩ := Prod.mk.inj h |>.imp (fun e => (Option.some.inj e)) id
    exact ⟨rfl, by rw [hs]; rfl, fun _ => by decide +kernel, by simp⟩
  · split at h
    · cases h
    · split at h
      · cases h
      · split at h
        · rename_i h1 h2 h3 h4
          obtain ⟨e1, e2⟩ := Prod.mk.inj h
          have e1 := Option.some.inj e1
          have hne : s ≠ [] := fun hh => h2 (.inl hh)
          have hev : ¬ s.length % 2 = 1 := fun hh => h2 (.inr (.inl hh))
          have had : allD s := Classical.byContradiction fun hh => h2 (.inr (.inr hh))
          obtain ⟨rs, r1, r2⟩ := allD_nums had
          have e3 : hexR (s.map fun c => (digV c.toNat).toNat) = hexR rs := by rw [r1, nums_digV r2]
          have hlr : s.length = rs.length := by rw [r1, List.length_map]
          have hb := hexR_len (rs.length / 2) rs (by omega)
          rw [e3] at e1 h4
          refine ⟨e2.symm, ?_, ?_, by rw [← e1]; omega⟩
          · unfold hexC
            have : 0 < s.length := List.length_pos_iff.2 hne
            rw [if_neg (fun hh => by rw [e1, hh] at hb; simp at hb; omega), ← e1, hexL_hexR (rs.length / 2) rs (by omega) r2, r1]
          · rintro rfl
            rw [e1] at h4
            unfold isOfC at h4
            rw [if_neg (by decide), if_pos rfl, Bool.and_eq_true] at h4
            exact h4.2
        · cases h
theorem bytesV_none (kind : Int) (s : List UInt8) (k : Nat) (h : bytesV kind s = (none, k)) : k ≠ 0 := by
  unfold bytesV at h
  split at h
  · cases h
  · split at h
    · have := (Prod.mk.inj h).2; omega
    · split at h
      · have := (Prod.mk.inj h).2; omega
      · split at h
        · cases h
        · have := (Prod.mk.inj h).2; omega

/-- A cell that is read has no fault, and its text is what it was read of. -/
theorem readV_some (kind : Int) (s : List UInt8) (y : Nat) (b : List UInt8) (k : Nat) (h : readV kind s = (some (y, b), k)) : k = 0 ∧ y < 18446744073709551616 ∧ checkC kind y b = 0 ∧ textK kind y b = s := by
  unfold readV at h
  split at h
  · cases h
  · rename_i hk
    have hk : 0 ≤ kind ∧ kind ≤ 5 := by simpa using hk
    split at h
    · rename_i h34
      cases hv : bytesV kind s with
      | mk o j =>
        rw [hv] at h
        cases o with
        | none => cases h
        | some c =>
          obtain ⟨e1, e2⟩ := Prod.mk.inj h
          have e1 := Prod.mk.inj (Option.some.inj e1)
          obtain ⟨j0, j1, j2, j3⟩ := bytesV_some kind h34 s c j hv
          have ey := e1.1
          have eb := e1.2
          rw [← eb, ← ey]
          refine ⟨by rw [← e2]; exact j0, by omega, check_mk hk (fun _ => rfl) (fun hh => absurd h34 hh) (fun _ => by omega) j2 j3, ?_⟩
          unfold textK
          rw [if_pos h34, j1]
    · rename_i h34
      split at h
      · rename_i x hx
        obtain ⟨e1, e2⟩ := Prod.mk.inj h
        have e1 := Prod.mk.inj (Option.some.inj e1)
        have ey := e1.1
        have eb := e1.2
        rw [← eb, ← ey]
        unfold readN at hx
        obtain ⟨z, hz, hz2⟩ := Option.bind_eq_some_iff.1 hx
        split at hz2
        · rename_i hn
          have hzx := Option.some.inj hz2
          rw [hzx] at hz hn
          obtain ⟨p1, p2⟩ := parN_lt kind (by omega) s x hz
          refine ⟨e2.symm, p1, check_mk hk (fun hh => absurd hh h34) (fun _ => rfl) p2 (fun hh => by omega) (by simp), ?_⟩
          unfold textK
          rw [if_neg h34, hn]
        · cases hz2
      · cases h
theorem readV_none (kind : Int) (s : List UInt8) (k : Nat) (h : readV kind s = (none, k)) : k ≠ 0 := by
  unfold readV at h
  split at h
  · have := (Prod.mk.inj h).2; omega
  · split at h
    · cases hv : bytesV kind s with
      | mk o j =>
        rw [hv] at h
        cases o with
        | none =>
          have := bytesV_none kind s j hv
          have := (Prod.mk.inj h).2
          simp only at this
          omega
        | some c => cases (Prod.mk.inj h).1
    · split at h
      · cases h
      · have := (Prod.mk.inj h).2; omega
end Go.Proofs.YtfpidkcdgebnpaaGreatDoor


/-
  The package's Text and Read, and the document's own, are the same (no program in it but the contracts' own functions).
-/
namespace Go.Proofs.YtfpidkcdgebnpaaGreatDoor
open Go.RowKit Go.Shelf

theorem hexN_zero : ∀ n, hexN n 0 = List.replicate n 48
  | 0 => rfl
  | n + 1 => by rw [hexN, hexN_zero n, List.replicate_succ']; rfl
theorem hexN_hx : ∀ (n x : Nat), 0 < n → x < 16 ^ n → hexN n x = List.replicate (n - (hx x).length) 48 ++ hx x
  | 0, _, h, _ => by omega
  | n + 1, x, _, h => by
    rw [hexN]
    by_cases h16 : x < 16
    · rw [hx_lo h16, show x / 16 = 0 from by omega, show x % 16 = x from by omega, hexN_zero]; rfl
    · rw [hx_hi h16]
      have hn : 0 < n := by
        rcases Nat.eq_zero_or_pos n with rfl | h'
        · omega
        · exact h'
      rw [hexN_hx n (x / 16) hn (Nat.div_lt_of_lt_mul (by rw [Nat.mul_comm]; rw [Nat.pow_succ] at h; exact h)), List.length_append, List.append_assoc]
      congr 2
      simp
theorem numL5 (x : Nat) (hx64 : x < 18446744073709551616) : numL 5 x = hexN 16 x := by
  rw [hexN_hx 16 x (by omega) (by omega)]
  unfold numL
  rw [if_neg (by decide), if_neg (by decide), if_pos rfl]

theorem textK_textC (kind : Int) (hk : 0 ≤ kind ∧ kind ≤ 5) (x : Nat) (hx : x < 18446744073709551616) (h2 : kind = 2 → x ≤ 1) (l : List UInt8) : textK kind x l = textC kind x l := by
  obtain rfl | rfl | rfl | rfl | rfl | rfl : kind = 0 ∨ kind = 1 ∨ kind = 2 ∨ kind = 3 ∨ kind = 4 ∨ kind = 5 := by omega
  · unfold textK textC numL; simp
  · unfold textK textC numL; simp
  · have := h2 rfl
    obtain rfl | rfl : x = 0 ∨ x = 1 := by omega
    · unfold textK textC numL; simp
    · unfold textK textC numL; simp
  · unfold textK textC; simp
  · unfold textK textC; simp
  · rw [show textC 5 x l = hexN 16 x from by unfold textC; simp, ← numL5 x hx]; unfold textK; simp

theorem dig_digV (c : UInt8) (h : 0 ≤ digV c.toNat) : dig (digV c.toNat).toNat = c := by
  unfold digV at h ⊢
  split at h
  · rename_i h1
    rw [if_pos h1]
    unfold dig
    rw [if_pos (by omega)]
    apply UInt8.toNat_inj.mp
    rw [UInt8.toNat_ofNat']
    omega
  · rename_i h1
    split at h
    · rename_i h2
      rw [if_neg h1, if_pos h2]
      unfold dig
      rw [if_neg (by omega)]
      apply UInt8.toNat_inj.mp
      rw [UInt8.toNat_ofNat']
      omega
    · omega
theorem unhexV_some : ∀ (l b : List UInt8), unhexV l = some b → hexL b = l
  | [], b, h => by rw [unhexV] at h; rw [← Option.some.inj h]; rfl
  | [_], b, h => by rw [unhexV] at h; cases h
  | x :: y :: r, b, h => by
    rw [unhexV] at h
    split at h
    · rename_i hd
      obtain ⟨m, hm, hb⟩ := Option.map_eq_some_iff.1 h
      have ih := unhexV_some r m hm
      have bx := digV_bounds x.toNat
      have byy := digV_bounds y.toNat
      have e2 : (UInt8.ofNat (16 * digV x.toNat + digV y.toNat).toNat).toNat = 16 * (digV x.toNat).toNat + (digV y.toNat).toNat := by rw [UInt8.toNat_ofNat']; omega
      rw [← hb]
      have e : ∀ c : UInt8, hexL (c :: m) = dig (c.toNat / 16) :: dig (c.toNat % 16) :: hexL m := fun _ => rfl
      rw [e, e2, ih, show (16 * (digV x.toNat).toNat + (digV y.toNat).toNat) / 16 = (digV x.toNat).toNat from by omega, show (16 * (digV x.toNat).toNat + (digV y.toNat).toNat) % 16 = (digV y.toNat).toNat from by omega, dig_digV x hd.1, dig_digV y hd.2]
    · cases h
theorem unhexC_some (l b : List UInt8) (h : unhexC l = some b) : hexC b = l := by
  unfold unhexC at h
  split at h
  · rename_i h1; rw [← Option.some.inj h, h1]; rfl
  · split at h
    · cases h
    · rename_i h1 h2
      have e := unhexV_some l b h
      unfold hexC
      rw [if_neg (fun hh => h2 (by rw [← e, hh]; rfl)), e]

theorem bytesV_eq (kind : Int) (hk : kind = 3 ∨ kind = 4) (l : List UInt8) :
    bytesV kind l = match unhexC l with
      | none => (none, 6)
      | some b => if 256 < b.length then (none, 7) else if kind = 4 ∧ utf8 b = false then (none, 11) else (some b, 0) := by
  unfold bytesV unhexC
  by_cases h45 : l = [45]
  · rw [if_pos h45, if_pos h45]
    dsimp only
    rw [if_neg (by simp), if_neg (by rintro ⟨_, h⟩; exact absurd h (by decide +kernel))]
  rw [if_neg h45, if_neg h45]
  by_cases h0 : l = []
  · rw [if_pos (.inl h0), if_pos h0]
  rw [if_neg h0]
  by_cases hodd : l.length % 2 = 1
  · rw [if_pos (.inr (.inl hodd)), unhexV_odd l hodd]
  by_cases had : allD l
  · rw [if_neg (by rintro (h | h | h); exact h0 h; exact hodd h; exact h had)]
    obtain ⟨rs, r1, r2⟩ := allD_nums had
    have e3 : hexR (l.map fun c => (digV c.toNat).toNat) = hexR rs := by rw [r1, nums_digV r2]
    have hlr : l.length = rs.length := by rw [r1, List.length_map]
    have hb := hexR_len (rs.length / 2) rs (by omega)
    have hu : unhexV l = some (hexR rs) := by
      have := unhexV_hexL (hexR rs)
      rw [hexL_hexR (rs.length / 2) rs (by omega) r2, ← r1] at this
      exact this
    rw [e3, hu]
    dsimp only
    by_cases h512 : 512 < l.length
    · rw [if_pos h512, if_pos (show 256 < (hexR rs).length by omega)]
    · rw [if_neg h512, if_neg (show ¬ 256 < (hexR rs).length by omega)]
      have hi : isOfC kind 0 (hexR rs) = true ↔ ¬ (kind = 4 ∧ utf8 (hexR rs) = false) := by
        unfold isOfC
        rcases hk with rfl | rfl
        · simp
        · rw [if_neg (by decide), if_pos rfl]
          cases utf8 (hexR rs) <;> simp
      by_cases hn : kind = 4 ∧ utf8 (hexR rs) = false
      · rw [if_neg (fun hh => (hi.1 hh) hn), if_pos hn]
      · rw [if_pos (hi.2 hn), if_neg hn]
  · rw [if_pos (.inr (.inr had))]
    have hu : unhexV l = none := by
      cases hv : unhexV l with
      | none => rfl
      | some b => exact absurd (by rw [← unhexV_some l b hv]; exact allD_hexL b) had
    rw [hu]

theorem readN_iff (kind : Int) (hk : kind = 0 ∨ kind = 1 ∨ kind = 2 ∨ kind = 5) (l : List UInt8) (x : Nat) :
    readN kind l = some x ↔ (x < 18446744073709551616 ∧ (kind = 2 → x ≤ 1)) ∧ numL kind x = l := by
  constructor
  · intro h
    unfold readN at h
    obtain ⟨z, hz, hz2⟩ := Option.bind_eq_some_iff.1 h
    split at hz2
    · rename_i hn
      have hzx := Option.some.inj hz2
      rw [hzx] at hz hn
      exact ⟨parN_lt kind hk l x hz, hn⟩
    · cases hz2
  · rintro ⟨⟨h1, h2⟩, rfl⟩
    exact readN_numL kind hk x h1 h2

theorem unsC_some (l : List UInt8) (v : Int) (h : unsC l = some v) : sdec v = l ∧ -9223372036854775808 ≤ v ∧ v ≤ 9223372036854775807 := by
  unfold unsC at h
  split at h
  · rename_i h45
    split at h
    · rename_i n hn
      split at h
      · rename_i hb
        rw [← Option.some.inj h]
        refine ⟨?_, by omega, by omega⟩
        unfold sdec
        rw [if_pos (by omega), show (-(-(n : Int))).toNat = n from by omega, undecC_some hn]
        cases l with
        | nil => cases h45
        | cons a r => rw [← Option.some.inj h45]; rfl
      · cases h
    · cases h
  · split at h
    · rename_i n hn
      split at h
      · rw [← Option.some.inj h]
        refine ⟨?_, by omega, by omega⟩
        unfold sdec
        rw [if_neg (by omega), show ((n : Int)).toNat = n from by omega, undecC_some hn]
      · cases h
    · cases h
theorem unsC_sdec (v : Int) (h0 : -9223372036854775808 ≤ v) (h1 : v ≤ 9223372036854775807) : unsC (sdec v) = some v := by
  unfold sdec
  by_cases hv : v < 0
  · rw [if_pos hv]
    unfold unsC
    rw [if_pos (show (45 :: dec (-v).toNat).head? = some 45 from rfl), List.tail_cons, undecC_dec (by omega)]
    dsimp only
    rw [if_pos (by omega)]
    congr 1; omega
  · rw [if_neg hv]
    obtain ⟨c, r, e, c1, c2⟩ := dec_head v.toNat
    unfold unsC
    rw [if_neg (by
      rw [e]
      intro hh
      have := Option.some.inj hh
      rw [this] at c1
      exact absurd c1 (by decide)), undecC_dec (by omega)]
    dsimp only
    rw [if_pos (by omega)]
    congr 1; omega

theorem wrap_mod {v : Int} (h0 : -9223372036854775808 ≤ v) (h1 : v ≤ 9223372036854775807) : wrap64 (((v % 18446744073709551616).toNat : Nat) : Int) = v := by
  unfold wrap64; omega

theorem readN_0 (l : List UInt8) : readN 0 l = (unsC l).map fun v => (v % 18446744073709551616).toNat := by
  apply Option.ext
  intro x
  rw [readN_iff 0 (.inl rfl)]
  have hn : ∀ x, numL 0 x = sdec (wrap64 (x : Int)) := fun x => by unfold numL; rw [if_pos rfl]
  constructor
  · rintro ⟨⟨h1, _⟩, h⟩
    rw [hn] at h
    obtain ⟨b0, b1⟩ := wrap_bounds x h1
    rw [← h, unsC_sdec _ b0 b1, Option.map_some, wrap_back x h1]
  · intro h
    obtain ⟨v, hv, he⟩ := Option.map_eq_some_iff.1 h
    obtain ⟨e, b0, b1⟩ := unsC_some l v hv
    refine ⟨⟨by omega, fun hh => by cases hh⟩, ?_⟩
    rw [hn, ← he, wrap_mod b0 b1, e]
theorem readN_1 (l : List UInt8) : readN 1 l = undecC l := by
  apply Option.ext
  intro x
  rw [readN_iff 1 (.inr (.inl rfl))]
  have hn : ∀ x, numL 1 x = dec x := fun x => by unfold numL; simp
  rw [hn]
  constructor
  · rintro ⟨⟨h1, _⟩, rfl⟩
    exact undecC_dec h1
  · intro h
    refine ⟨⟨?_, fun hh => by cases hh⟩, undecC_some h⟩
    unfold undecC at h
    split at h
    · rename_i n hv
      split at h
      · rw [← Option.some.inj h]; exact undecV_lt l 0 (by omega) hv
      · cases h
    · cases h
theorem readN_2 (l : List UInt8) : readN 2 l = if l = [116, 114, 117, 101] then some 1 else if l = [102, 97, 108, 115, 101] then some 0 else none := by
  apply Option.ext
  intro x
  rw [readN_iff 2 (.inr (.inr (.inl rfl)))]
  have hn : ∀ x, numL 2 x = if x = 1 then [116, 114, 117, 101] else [102, 97, 108, 115, 101] := fun x => by unfold numL; simp
  rw [hn]
  constructor
  · rintro ⟨⟨h1, h2⟩, rfl⟩
    have := h2 rfl
    obtain rfl | rfl : x = 0 ∨ x = 1 := by omega
    · simp
    · simp
  · intro h
    split at h
    · rename_i h1
      have := Option.some.inj h
      subst this
      exact ⟨⟨by omega, fun _ => by omega⟩, by rw [h1]; simp⟩
    · split at h
      · rename_i h1
        have := Option.some.inj h
        subst this
        exact ⟨⟨by omega, fun _ => by omega⟩, by rw [h1]; simp⟩
      · cases h

/-- The number that bytes are, the greatest one ahead. -/
def num256 (b : List UInt8) : Nat := b.foldl (fun a c => 256 * a + c.toNat) 0
theorem num256_snoc (b : List UInt8) (c : UInt8) : num256 (b ++ [c]) = 256 * num256 b + c.toNat := by unfold num256; rw [List.foldl_append]; rfl
theorem num256_lt : ∀ (n : Nat) (b : List UInt8), b.length = n → num256 b < 256 ^ n := by
  intro n
  induction n with
  | zero => intro b h; rw [List.length_eq_zero_iff.1 h]; decide
  | succ n ih =>
    intro b h
    obtain ⟨a, c, rfl⟩ : ∃ a c, b = a ++ [c] := ⟨b.dropLast, b.getLast (by intro hh; rw [hh] at h; cases h), (List.dropLast_concat_getLast _).symm⟩
    have := ih a (by simpa using h)
    have := c.toNat_lt
    rw [num256_snoc, Nat.pow_succ]
    omega
theorem hexL_app (a b : List UInt8) : hexL (a ++ b) = hexL a ++ hexL b := by unfold hexL; rw [List.flatMap_append]
theorem hexL_num : ∀ (n : Nat) (b : List UInt8), b.length = n → hexL b = hexN (2 * n) (num256 b) := by
  intro n
  induction n with
  | zero => intro b h; rw [List.length_eq_zero_iff.1 h]; rfl
  | succ n ih =>
    intro b h
    obtain ⟨a, c, rfl⟩ : ∃ a c, b = a ++ [c] := ⟨b.dropLast, b.getLast (by intro hh; rw [hh] at h; cases h), (List.dropLast_concat_getLast _).symm⟩
    have e := ih a (by simpa using h)
    have hc := c.toNat_lt
    rw [num256_snoc, hexL_app, e, show 2 * (n + 1) = 2 * n + 1 + 1 from by omega, hexN, hexN, List.append_assoc, show (256 * num256 a + c.toNat) / 16 / 16 = num256 a from by omega,
      show (256 * num256 a + c.toNat) / 16 % 16 = c.toNat / 16 from by omega, show (256 * num256 a + c.toNat) % 16 = c.toNat % 16 from by omega]
    rfl
theorem num256_all : ∀ (n x : Nat), x < 256 ^ n → ∃ b : List UInt8, b.length = n ∧ num256 b = x
  | 0, x, h => ⟨[], rfl, (show x = 0 by simpa using h) ▸ rfl⟩
  | n + 1, x, h => by
    obtain ⟨b, h1, h2⟩ := num256_all n (x / 256) (Nat.div_lt_of_lt_mul (by rw [Nat.mul_comm]; rw [Nat.pow_succ] at h; exact h))
    refine ⟨b ++ [UInt8.ofNat (x % 256)], by simp [h1], ?_⟩
    rw [num256_snoc, h2, UInt8.toNat_ofNat']
    omega
theorem readN_5 (l : List UInt8) : readN 5 l = (unhexC l).bind fun b => if b.length = 8 then some (num256 b) else none := by
  apply Option.ext
  intro x
  rw [readN_iff 5 (.inr (.inr (.inr rfl)))]
  constructor
  · rintro ⟨⟨h1, _⟩, rfl⟩
    rw [numL5 x h1]
    obtain ⟨b, b1, b2⟩ := num256_all 8 x (by omega)
    have e : hexC b = hexN 16 x := by
      unfold hexC
      rw [if_neg (by rintro rfl; cases b1), hexL_num 8 b b1, b2]
    rw [← e, unhexC_hexC, Option.bind_some, if_pos b1, b2]
  · intro h
    obtain ⟨b, hb, h2⟩ := Option.bind_eq_some_iff.1 h
    split at h2
    · rename_i h8
      have hx := Option.some.inj h2
      have hlt := num256_lt 8 b h8
      refine ⟨⟨by omega, fun hh => by cases hh⟩, ?_⟩
      rw [numL5 x (by omega), ← hx, ← unhexC_some l b hb]
      unfold hexC
      rw [if_neg (by rintro rfl; cases h8), hexL_num 8 b h8]
    · cases h2

/-- What the document's Read answers. -/
noncomputable def readR (kind : Int) (l : List UInt8) : Option (Nat × List UInt8) × Nat :=
  if kind = 0 then match unsC l with
    | some v => (some ((v % 18446744073709551616).toNat, []), 0)
    | none => (none, 6)
  else if kind = 1 then match undecC l with
    | some x => (some (x, []), 0)
    | none => (none, 6)
  else if kind = 2 then (if l = [116, 114, 117, 101] then (some (1, []), 0) else if l = [102, 97, 108, 115, 101] then (some (0, []), 0) else (none, 6))
  else if kind = 3 ∨ kind = 4 then match unhexC l with
    | none => (none, 6)
    | some b => if 256 < b.length then (none, 7) else if kind = 4 ∧ utf8 b = false then (none, 11) else (some (0, b), 0)
  else if kind = 5 then match unhexC l with
    | none => (none, 6)
    | some b => if b.length = 8 then (some (num256 b, []), 0) else (none, 6)
  else (none, 10)

theorem readR_eq (kind : Int) (l : List UInt8) : readV kind l = readR kind l := by
  by_cases hk : 0 ≤ kind ∧ kind ≤ 5
  · unfold readV
    rw [if_neg (by simpa using hk)]
    obtain rfl | rfl | rfl | rfl | rfl | rfl : kind = 0 ∨ kind = 1 ∨ kind = 2 ∨ kind = 3 ∨ kind = 4 ∨ kind = 5 := by omega
    · rw [if_neg (by decide), readN_0, show readR 0 l = (match unsC l with
        | some v => (some ((v % 18446744073709551616).toNat, []), 0)
        | none => (none, 6)) from by unfold readR; rw [if_pos rfl]]
      cases unsC l <;> rfl
    · rw [if_neg (by decide), readN_1, show readR 1 l = (match undecC l with
        | some x => (some (x, []), 0)
        | none => (none, 6)) from by unfold readR; rw [if_neg (by decide), if_pos rfl]]
      cases undecC l <;> rfl
    · rw [if_neg (by decide), readN_2, show readR 2 l = (if l = [116, 114, 117, 101] then (some (1, []), 0) else if l = [102, 97, 108, 115, 101] then (some (0, []), 0) else (none, 6)) from by
        unfold readR; rw [if_neg (by decide), if_neg (by decide), if_pos rfl]]
      by_cases h1 : l = [116, 114, 117, 101]
      · rw [if_pos h1, if_pos h1]
      · rw [if_neg h1, if_neg h1]
        by_cases h2 : l = [102, 97, 108, 115, 101]
        · rw [if_pos h2, if_pos h2]
        · rw [if_neg h2, if_neg h2]
    · rw [if_pos (by decide), bytesV_eq 3 (.inl rfl), show readR 3 l = (match unhexC l with
        | none => (none, 6)
        | some b => if 256 < b.length then (none, 7) else if (3 : Int) = 4 ∧ utf8 b = false then (none, 11) else (some (0, b), 0)) from by
        unfold readR; rw [if_neg (by decide), if_neg (by decide), if_neg (by decide), if_pos (by decide)]]
      cases unhexC l with
      | none => rfl
      | some b =>
        dsimp only
        have h3 : ¬ ((3 : Int) = 4 ∧ utf8 b = false) := fun h => absurd h.1 (by decide)
        by_cases h1 : 256 < b.length
        · rw [if_pos h1, if_pos h1]; rfl
        · rw [if_neg h1, if_neg h1, if_neg h3, if_neg h3]; rfl
    · rw [if_pos (by decide), bytesV_eq 4 (.inr rfl), show readR 4 l = (match unhexC l with
        | none => (none, 6)
        | some b => if 256 < b.length then (none, 7) else if (4 : Int) = 4 ∧ utf8 b = false then (none, 11) else (some (0, b), 0)) from by
        unfold readR; rw [if_neg (by decide), if_neg (by decide), if_neg (by decide), if_pos (by decide)]]
      cases unhexC l with
      | none => rfl
      | some b =>
        dsimp only
        by_cases h1 : 256 < b.length
        · rw [if_pos h1, if_pos h1]; rfl
        · rw [if_neg h1, if_neg h1]
          by_cases h2 : utf8 b = false
          · rw [if_pos ⟨rfl, h2⟩, if_pos ⟨rfl, h2⟩]; rfl
          · rw [if_neg (fun hh => h2 hh.2), if_neg (fun hh => h2 hh.2)]; rfl
    · rw [if_neg (by decide), readN_5, show readR 5 l = (match unhexC l with
        | none => (none, 6)
        | some b => if b.length = 8 then (some (num256 b, []), 0) else (none, 6)) from by
        unfold readR; rw [if_neg (by decide), if_neg (by decide), if_neg (by decide), if_neg (by decide), if_pos rfl]]
      cases unhexC l with
      | none => rfl
      | some b =>
        dsimp only [Option.bind_some]
        by_cases h1 : b.length = 8
        · rw [if_pos h1, if_pos h1]
        · rw [if_neg h1, if_neg h1]
  · unfold readV readR
    rw [if_pos hk, if_neg (by omega), if_neg (by omega), if_neg (by omega), if_neg (by omega), if_neg (by omega)]

end Go.Proofs.YtfpidkcdgebnpaaGreatDoor

