/-
  Bytes' digits as the document's own answer for layer 4 tells them; numbers of either sign.
-/
import Derived.Test.YtdegeifklchjaaaGreatDoorDecimal
import Derived.Deep.QuietTactic
import Derived.BigQuiet
import Derived.RegionTactic
import Derived.BigRegion
set_option linter.unusedVariables false
set_option linter.unusedSimpArgs false
set_option maxRecDepth 1000000
namespace Go.Proofs.YtdegeifklchjaaaGreatDoor
open Go.RowKit

def hexL (l : List UInt8) : List UInt8 := l.flatMap fun b => [dig (b.toNat / 16), dig (b.toNat % 16)]
def hexC (l : List UInt8) : List UInt8 := if l = [] then [45] else hexL l

theorem hexL_len (l : List UInt8) : (hexL l).length = 2 * l.length := by
  induction l with
  | nil => rfl
  | cons a r ih =>
    unfold hexL at ih ⊢
    rw [List.flatMap_cons, List.length_append, ih, List.length_cons]
    simp; omega

theorem hexL_succ {l : List UInt8} {k : Nat} (h : k < l.length) : hexL (l.take (k + 1)) = (hexL (l.take k) ++ [dig ((l.getD k 0).toNat / 16)]) ++ [dig ((l.getD k 0).toNat % 16)] := by
  unfold hexL
  rw [List.take_succ_eq_append_getElem h, List.flatMap_append]
  simp [List.getD, h]

/-- A number of either sign, as its decimals. -/
def sdec (x : Int) : List UInt8 := if x < 0 then 45 :: dec (-x).toNat else dec x.toNat

set_option maxHeartbeats 1000000 in
set_option maxRecDepth 1000000 in
theorem ref_Hex (s : ByteArray) (l : List UInt8) (w : World) (h : RdS s l) (hb : l.length ≤ 70368744175616) :
    Calls Tryz.prog 26 #[.string s] w fun e w' => (∃ t, e = .returned (.string t) ∧ RdS t (hexC l)) ∧ Below w.heap.size w w' := by
  have hlen := h.len
  have hidx := h.idx
  have htl := h.toList
  by_cases hl : l = []
  · have hem : s.toList.isEmpty = true := by rw [htl, hl]; rfl
    rw [show hexC l = [45] from if_pos hl]
    clear htl
    go_enter Tryz.func26, Tryz.ntmps26
    go_wp2
    go_ret
    exact ⟨⟨_, rfl, ⟨rfl, by simp⟩⟩, Below.refl _ _⟩
  · have hem : s.toList.isEmpty = false := by rw [htl]; cases l <;> simp_all
    rw [show hexC l = hexL l from if_neg hl]
    clear htl
    go_enter Tryz.func26, Tryz.ntmps26
    go_wp2
    go_loopw [3, 4] (fun a i wr => ∃ (k : Nat) (t : ByteArray), k ≤ l.length ∧ i = .int .i64 k ∧ a = .string t ∧ Hid (RdS t (hexL (l.take k))) ∧ Hid (Below w.heap.size w wr)) (fun _ i _ => l.length - (intOf i).toNat)
    case atStart => exact ⟨0, _, by omega, rfl, rfl, Lib.hid ⟨rfl, by simp [hexL]⟩, Lib.hid (Below.refl _ _)⟩
    case round =>
      obtain ⟨k, t, hk, rfl, rfl, HT, HB⟩ := hrel
      by_cases hlt : k < l.length
      · have hx := hidx k hlt
        obtain ⟨c, hc⟩ : ∃ c : Nat, at8 l k = (c : Int) := ⟨(l.getD k 0).toNat, rfl⟩
        have hc1 := at8_hi l k
        have hcc : (l.getD k 0).toNat = c := by unfold at8 at hc; omega
        have hsu := hexL_succ hlt
        rw [hcc] at hsu
        rw [hc] at hc1 hx
        obtain ⟨a, ha⟩ : ∃ a, a = c / 16 := ⟨_, rfl⟩
        obtain ⟨b, hb2⟩ : ∃ b, b = c % 16 := ⟨_, rfl⟩
        have ha1 : (c : Int) / 16 = (a : Int) := by omega
        have hb1 : (c : Int) % 16 = (b : Int) := by omega
        have ha16 : a < 16 := by omega
        have hb16 : b < 16 := by omega
        rw [← ha, ← hb2] at hsu
        obtain ⟨d1, hd1⟩ : ∃ d : ByteArray, d = ⟨#[dig a]⟩ := ⟨_, rfl⟩
        obtain ⟨d2, hd2⟩ : ∃ d : ByteArray, d = ⟨#[dig b]⟩ := ⟨_, rfl⟩
        have hx1 : ({ data := #[48, 49, 50, 51, 52, 53, 54, 55, 56, 57, 97, 98, 99, 100, 101, 102] } : ByteArray).extract a (a + 1) = d1 := by rw [hd1]; exact digit_at ha16
        have hx2 : ({ data := #[48, 49, 50, 51, 52, 53, 54, 55, 56, 57, 97, 98, 99, 100, 101, 102] } : ByteArray).extract b (b + 1) = d2 := by rw [hd2]; exact digit_at hb16
        have hS1 : RdS d1 [dig a] := ⟨hd1, by simp⟩
        have hS2 : RdS d2 [dig b] := ⟨hd2, by simp⟩
        have hle := hexL_len (l.take k)
        rw [List.length_take, Nat.min_eq_left hk] at hle
        have hA1 := HT.out.app hS1 (by rw [hle, show [dig a].length = 1 from rfl]; omega)
        have hA2 := hA1.app hS2 (by rw [List.length_append, hle, show [dig a].length = 1 from rfl, show [dig b].length = 1 from rfl]; omega)
        have z1 : d1.size = 1 := hS1.size
        have z2 : d2.size = 1 := hS2.size
        have z3 := HT.out.size
        have z4 := hA1.size
        rw [List.length_append, hle, show [dig a].length = 1 from rfl] at z4
        rw [hle] at z3
        have hsz1 : ¬ (t.size + d1.size > 9223372036854775807) := by omega
        have hsz2 : ¬ ((t ++ d1).size + d2.size > 9223372036854775807) := by omega
        rw [← hsu] at hA2
        have HA := Lib.hid hA2
        clear hsu hcc hc ha hb2 hd1 hd2 hS1 hS2 hA1 hA2 z1 z2 z3 z4 hle hidx
        go_wp2
        go_quiet (fail)
        go_wp2
        go_roundw
        case rel => exact ⟨k + 1, t ++ d1 ++ d2, by omega, by go_num, rfl, HA, Lib.hid ⟨HB.out.os, HB.out.tape, HB.out.output, HB.out.size, HB.out.block⟩⟩
        case measure => simp [intOf]; omega
      · obtain rfl : k = l.length := by omega
        have HT2 := HT.out
        rw [List.take_length] at HT2
        have HT3 := Lib.hid HT2
        clear HT2
        go_wp2
        go_ret
        exact ⟨⟨_, rfl, HT3.out⟩, HB.out⟩

end Go.Proofs.YtdegeifklchjaaaGreatDoor
