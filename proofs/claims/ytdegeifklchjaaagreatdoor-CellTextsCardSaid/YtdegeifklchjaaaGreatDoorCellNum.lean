/-
  Package cell: the text of a number, of each kind.
-/
import Derived.Test.YtdegeifklchjaaaGreatDoorFmtHex
import Derived.Test.YtdegeifklchjaaaGreatDoorCellAlive
set_option linter.unusedVariables false
set_option linter.unusedSimpArgs false
set_option maxRecDepth 1000000
namespace Go.Proofs.YtdegeifklchjaaaGreatDoor
open Go.RowKit Go.Shelf

theorem builderX : Builder.Extra Tryz.prog Tryz.laysRepeat_ren := {
  sizeBuilder := by kernel_rfl
  liesBuilder := by kernel_rfl
  t5 := Tryz.underlying5
  a5 := Tryz.isAgg5
  z5 := Tryz.sizeOf5
  v5 := Tryz.zeroValue5
  infoByte := by kernel_rfl
  cellsByte := by kernel_rfl
  sizeByte := by kernel_rfl
  neB5 := by decide }

theorem repeat_zero : ∀ n, Lib.repeatL [48] n = List.replicate n 48
  | 0 => rfl
  | n + 1 => by rw [Lib.repeatL, repeat_zero n, List.replicate_succ]; rfl

theorem lib_Zeros (n : Nat) (hn : n ≤ 100) (w : World) :
    Calls Tryz.prog 38 #[.string ({ data := #[48] } : ByteArray), .int .i64 (n : Int)] w fun e w' => e = .returned (.string ⟨(List.replicate n 48).toArray⟩) ∧ Below w.heap.size w w' := by
  have c : Calls Tryz.prog 38 #[.string ({ data := #[48] } : ByteArray), .int .i64 (n : Int)] w _ := Any.strings_Repeat Tryz.laysRepeat builderX ({ data := #[48] } : ByteArray) n w (by omega) (by show 1 * n ≤ _; omega)
  rw [show ({ data := #[48] } : ByteArray).data.toList = [48] from rfl, repeat_zero] at c
  exact c

theorem hx_len : ∀ (k x : Nat), x < 16 ^ (k + 1) → (hx x).length ≤ k + 1
  | 0, x, h => by rw [hx_lo (by simpa using h)]; simp
  | k + 1, x, h => by
    by_cases h16 : x < 16
    · rw [hx_lo h16]; simp
    · rw [hx_hi h16, List.length_append]
      have := hx_len k (x / 16) (Nat.div_lt_of_lt_mul (by rw [Nat.mul_comm]; rw [Nat.pow_succ] at h; exact h))
      simp; omega

/-- The text of a number of a kind. -/
def numL (kind : Int) (x : Nat) : List UInt8 :=
  if kind = 0 then sdec (wrap64 (x : Int)) else if kind = 2 then (if x = 1 then [116, 114, 117, 101] else [102, 97, 108, 115, 101])
  else if kind = 5 then List.replicate (16 - (hx x).length) 48 ++ hx x else dec x

theorem sdec_len (x : Int) (h0 : -9223372036854775808 ≤ x) (h1 : x ≤ 9223372036854775807) : (sdec x).length ≤ 30 := by
  unfold sdec
  split
  · have := dec_len 19 (-x).toNat (by omega)
    simp; omega
  · have := dec_len 19 x.toNat (by omega)
    omega

/-- What the library's tables must hold. -/
structure Lib3 (w : World) : Prop where
  tabs : Tabs w
  pow : Pow w
  deb : Deb w
theorem Lib3.later {w w' : World} (h : Lib3 w) (hb : Below w.heap.size w w') : Lib3 w' := ⟨h.tabs.later hb, h.pow.later hb, h.deb.later hb⟩

theorem wrap_bounds (x : Nat) (hx : x < 18446744073709551616) : -9223372036854775808 ≤ wrap64 (x : Int) ∧ wrap64 (x : Int) ≤ 9223372036854775807 := by
  unfold wrap64; omega

set_option maxHeartbeats 2000000 in
theorem cell_numText (kind : Int) (hk : kind = 0 ∨ kind = 1 ∨ kind = 2 ∨ kind = 5) (x : Nat) (hx64 : x < 18446744073709551616) (w : World) (hT : Lib3 w) :
    Calls Tryz.prog 16 #[.int .i64 kind, .int .u64 (x : Int)] w fun e w' => (∃ t, e = .returned (.string t) ∧ RdS t (numL kind x)) ∧ Below w.heap.size w w' := by
  rcases hk with rfl | rfl | rfl | rfl
  · have hwb := wrap_bounds x hx64
    have hlen := sdec_len _ hwb.1 hwb.2
    have hc := lib_FormatInt (wrap64 (x : Int)) hwb.1 hwb.2 w hT.pow
    have HN := Lib.hid (show numL 0 x = sdec (wrap64 (x : Int)) from by unfold numL; rw [if_pos rfl])
    have HL := Lib.hid hlen
    clear hwb hlen
    go_enter Tryz.func16, Tryz.ntmps16
    go_wp2_with fail
    refine hc.mono ?_
    rintro e w1 ⟨rfl, hb⟩
    have HB := Lib.hid hb
    clear hb hc
    go_wp2
    go_ret
    exact ⟨⟨_, rfl, ⟨by rw [HN.out], by rw [HN.out]; have := HL.out; omega⟩⟩, HB.out⟩
  · have hlen := dec_len 19 x (by omega)
    have HN := Lib.hid (show numL 1 x = dec x from by unfold numL; rw [if_neg (by decide), if_neg (by decide), if_neg (by decide)])
    have HL := Lib.hid hlen
    clear hlen
    go_enter Tryz.func16, Tryz.ntmps16
    go_wp2_with fail
    refine (lib_FormatUint x hx64 _ hT.pow).mono ?_
    rintro e w1 ⟨rfl, hb⟩
    have HB := Lib.hid hb
    clear hb
    go_wp2
    go_ret
    exact ⟨⟨_, rfl, ⟨by rw [HN.out], by rw [HN.out]; have := HL.out; omega⟩⟩, HB.out⟩
  · have HN := Lib.hid (show numL 2 x = (if x = 1 then [116, 114, 117, 101] else [102, 97, 108, 115, 101]) from by unfold numL; rw [if_neg (by decide), if_pos rfl])
    by_cases h1 : x = 1
    · subst h1
      go_enter Tryz.func16, Tryz.ntmps16
      go_wp2_with fail
      refine (lib_FormatBool true _).mono ?_
      rintro e w1 ⟨rfl, rfl⟩
      go_wp2
      go_ret
      exact ⟨⟨_, rfl, ⟨by rw [HN.out]; simp, by rw [HN.out]; decide⟩⟩, Below.refl _ _⟩
    · have hne : ((x : Int) == 1) = false := by simp; omega
      have HX := Lib.hid h1
      clear h1
      go_enter Tryz.func16, Tryz.ntmps16
      go_wp2_with fail
      refine (lib_FormatBool false _).mono ?_
      rintro e w1 ⟨rfl, rfl⟩
      go_wp2
      go_ret
      exact ⟨⟨_, rfl, ⟨by rw [HN.out, if_neg HX.out], by rw [HN.out, if_neg HX.out]; decide⟩⟩, Below.refl _ _⟩
  · have hlen := hx_len 15 x (by omega)
    have HN := Lib.hid (show numL 5 x = List.replicate (16 - (hx x).length) 48 ++ hx x from by unfold numL; rw [if_neg (by decide), if_neg (by decide), if_pos rfl])
    obtain ⟨t, ht⟩ : ∃ t : ByteArray, t = ⟨(hx x).toArray⟩ := ⟨_, rfl⟩
    have hR : RdS t (hx x) := ⟨ht, by omega⟩
    have htl := hR.len
    obtain ⟨z, hz⟩ : ∃ z, z = 16 - (hx x).length := ⟨_, rfl⟩
    have hzi : 16 - ((hx x).length : Int) = (z : Int) := by omega
    obtain ⟨u, hu⟩ : ∃ u : ByteArray, u = ⟨(List.replicate z 48).toArray⟩ := ⟨_, rfl⟩
    have hU : RdS u (List.replicate z 48) := ⟨hu, by simp; omega⟩
    have hz1 : t.size = (hx x).length := by rw [ht]; simp [ByteArray.size]
    have hz2 : u.size = z := by rw [hu]; simp [ByteArray.size]
    have hsz : ¬ (u.size + t.size > 9223372036854775807) := by omega
    have hz16 : z ≤ 16 := by omega
    have HA := Lib.hid (hU.app hR (by simp; omega))
    have HZ := Lib.hid hz
    have HT := Lib.hid ht
    have HU := Lib.hid hu
    obtain ⟨c, hc⟩ : ∃ c, (hx x).length = c := ⟨_, rfl⟩
    rw [hc] at htl hzi
    clear hz hz1 hz2 hlen hR hU ht hu hc
    go_enter Tryz.func16, Tryz.ntmps16
    go_wp2_with fail
    refine (lib_FormatHex x hx64 _ hT.deb).mono ?_
    rintro e w1 ⟨rfl, hb⟩
    rw [← HT.out]
    have HB := Lib.hid hb
    clear hb
    go_wp2_with fail
    refine (lib_Zeros z (by omega) _).mono ?_
    rintro e w2 ⟨rfl, hb⟩
    rw [← HU.out]
    replace HB := Lib.hid (HB.out.trans (hb.mono HB.out.size))
    clear hb
    go_wp2
    go_ret
    exact ⟨⟨_, rfl, by rw [HN.out, ← HZ.out]; exact HA.out⟩, HB.out⟩

end Go.Proofs.YtdegeifklchjaaaGreatDoor
