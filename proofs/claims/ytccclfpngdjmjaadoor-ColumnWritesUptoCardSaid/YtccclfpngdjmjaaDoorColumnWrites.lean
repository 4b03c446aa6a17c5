/-
  ColumnWrites: the law's own walk.
-/
import Derived.Test.YtccclfpngdjmjaaDoorColAlive
set_option linter.unusedVariables false
set_option linter.unusedSimpArgs false
set_option maxRecDepth 1000000
namespace Go.Proofs.YtccclfpngdjmjaaDoor
open Go.RowKit Go.Shelf

set_option maxHeartbeats 8000000 in
theorem columnWrites_walk (kind : Int) (v : Value) (cs : List CellB) (w : World) (hk : -9223372036854775808 ≤ kind ∧ kind ≤ 9223372036854775807) (hR : RdE w v cs) (hC : CES cs) (hT : Tabs w) (hU : cs.length + sumT (cesL cs) < 4611686018427387904) :
    Calls Tryd.prog 3 #[.int .i64 kind, v] w fun e w' => e = .returned (.bool true) ∧ Below w.heap.size w w' := by
  have HK := Lib.hid hk
  have HR := Lib.hid hR
  have HC := Lib.hid hC
  have HT := Lib.hid hT
  have HU := Lib.hid hU
  clear hk hR hC hT hU
  go_enter Tryd.func3, Tryd.ntmps3
  go_wp2_with fail
  refine (law09_alive w HT.out).mono ?_
  rintro e w1 ⟨rfl, hb⟩
  have HB := Lib.hid hb
  clear hb
  go_wp2_with fail
  refine (law09_great v cs w1 (HR.out.later HB.out (Nat.le_refl _)) HC.out).mono ?_
  rintro e w2 ⟨g, rfl, hb, hg⟩
  have HB2 := Lib.hid (HB.out.trans (hb.mono HB.out.size))
  have HG := Lib.hid hg
  clear hb hg HB
  cases g with
  | true =>
    go_wp2_with fail
    refine (law09_alive w2 (HT.out.later HB2.out)).mono ?_
    rintro e w3 ⟨rfl, hb⟩
    have HB3 := Lib.hid (HB2.out.trans (hb.mono HB2.out.size))
    clear hb HB2
    go_wp2
    go_ret
    exact ⟨rfl, HB3.out⟩
  | false =>
    have HS := Lib.hid (show 10 * cs.length + sumT (cesL cs) ≤ 1000000 by have := HG.out rfl HU.out; omega)
    clear HG
    go_wp2_with fail
    refine (column_Write kind v cs w2 (HR.out.later HB2.out (Nat.le_refl _)) HC.out (HT.out.later HB2.out) (fun _ => HS.out)).mono ?_
    rintro e w3 ⟨bv, rfl, hO, hb⟩
    have HB3 := Lib.hid (HB2.out.trans (hb.mono HB2.out.size))
    have HO3 := Lib.hid (hO.base (base' := w.heap.size) HB2.out.size)
    clear hb hO HB2
    go_wp2_with fail
    refine (ref_Write09 v kind cs w3 (HR.out.later HB3.out (Nat.le_refl _)) HC.out HK.out HS.out).mono ?_
    rintro e w4 ⟨cv, rfl, hO, hb⟩
    have HB4 := Lib.hid (HB3.out.trans (hb.mono HB3.out.size))
    obtain ⟨L, hL⟩ : ∃ L, L = (if wrE kind (cesL cs) = 0 then wrC kind (cesL cs) else []) := ⟨_, rfl⟩
    have hLs : L.length ≤ 140737488351232 := by
      rw [hL]; split
      · rename_i h0
        have h1 := wrC_le (wrE_fit h0 (fun c hc => ce_cases HC.out hc)).2
        rw [cesL_length] at h1
        have := HS.out
        omega
      · simp
    have hO4 := HO3.out.later hb (Nat.le_refl _)
    rw [← hL] at hO hO4
    have hs1 := (hO4.rd hLs).str
    have hs2 := (hO.rd hLs).str
    generalize wrE kind (cesL cs) = y at *
    clear hb hO hO4 HO3 HB3 hL
    go_wp2
    go_ret
    exact ⟨by simp, HB4.out⟩

end Go.Proofs.YtccclfpngdjmjaaDoor
