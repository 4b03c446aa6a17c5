/-
  The document's own reader, whether it has ended or not: what its methods do.
-/
import Derived.Test.YtedfcnlhdicipaaGreatDoorReaderRef
set_option linter.unusedVariables false
set_option linter.unusedSimpArgs false
set_option maxRecDepth 1000000
namespace Go.Proofs.YtedfcnlhdicipaaGreatDoor
open Go.RowKit

theorem mod_Must (m : Nat) (v : Value) (l : List UInt8) (k x : Nat) (w : World) (hM : Mdl w m v l k x) (ok : Bool) (y : Nat) :
    Calls Tryz.prog 73 #[.pointer (some ⟨m, 0, none⟩), .bool ok, .int .i64 (y : Int)] w (Does w m v l (.tuple #[]) k (if x = 0 then (if ok then 0 else y) else x)) := by
  by_cases hx : x = 0
  · subst hx
    rw [if_pos rfl]
    exact model_Must m v l k w hM ok y
  · rw [if_neg hx]
    have c2 := hM.cell2
    have hq : ((x : Int) == 0) = false := by rw [beq_eq_false_iff_ne]; omega
    have HM := Lib.hid hM
    clear hx hM
    go_enter Tryz.func73, Tryz.ntmps73
    go_wp2
    go_end0
    exact ⟨rfl, World.grownBy.refl _ _, HM.out⟩

theorem mod_Byte (m : Nat) (v : Value) (l : List UInt8) (k x : Nat) (w : World) (hM : Mdl w m v l k x) :
    Calls Tryz.prog 111 #[.pointer (some ⟨m, 0, none⟩)] w (Does w m v l (.int .u8 (if x = 0 then (if k < l.length then at8 l k else 0) else 0)) (if x = 0 then (if k < l.length then k + 1 else k) else k) (if x = 0 then (if k < l.length then 0 else 5) else x)) := by
  by_cases hx : x = 0
  · subst hx
    simp only [if_true]
    exact model_Byte m v l k w hM
  · rw [if_neg hx, if_neg hx, if_neg hx]
    have c2 := hM.cell2
    have hq : ((x : Int) != 0) = true := by rw [bne_iff_ne]; omega
    have HM := Lib.hid hM
    clear hx hM
    go_enter Tryz.func111, Tryz.ntmps111
    go_wp2
    go_ret
    exact ⟨rfl, World.grownBy.refl _ _, HM.out⟩

theorem mod_Bytes (m : Nat) (v : Value) (l : List UInt8) (k x : Nat) (w : World) (hM : Mdl w m v l k x) (most : Int) (hm : -9223372036854775808 ≤ most ∧ most ≤ 9223372036854775807) :
    Calls Tryz.prog 143 #[.pointer (some ⟨m, 0, none⟩), .int .i64 most] w fun e w' => ∃ val, Does w m v l val (if x = 0 then (rdB l k most).2.1 else k) (if x = 0 then (rdB l k most).2.2 else x) e w' ∧ Own w' w.heap.size val (if x = 0 then (rdB l k most).1 else []) := by
  by_cases hx : x = 0
  · subst hx
    simp only [if_true]
    exact model_Bytes m v l k w hM most hm
  · rw [if_neg hx, if_neg hx, if_neg hx]
    have c2 := hM.cell2
    have hq : ((x : Int) != 0) = true := by rw [bne_iff_ne]; omega
    have HM := Lib.hid hM
    clear hx hM
    go_enter Tryz.func143, Tryz.ntmps143
    go_wp2
    go_ret
    exact ⟨_, ⟨rfl, World.grownBy.refl _ _, HM.out⟩, own_nil _ _⟩

end Go.Proofs.YtedfcnlhdicipaaGreatDoor
