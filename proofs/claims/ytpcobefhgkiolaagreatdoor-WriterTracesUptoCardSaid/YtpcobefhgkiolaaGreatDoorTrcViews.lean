/- -/
import Derived.Test.YtpcobefhgkiolaaGreatDoorBTrcM
import Derived.Test.YtpcobefhgkiolaaGreatDoorBatLen
set_option linter.unusedVariables false
set_option linter.unusedSimpArgs false
set_option maxRecDepth 1000000
namespace Go.Proofs.YtpcobefhgkiolaaGreatDoor
open Go.RowKit Go.Shelf
theorem entP_small {cs:List ColB} {x:EntB} (hS:errS (colsL cs)=0) (hs:0≤x.2.1∧x.2.1≤281474976710656) (hz:Zs cs x.2.2) (hl:x.2.2.length≤400):(entP cs x).length≤1048576:=by
 have h1:=wr_le hz.1 hz.2
 have h2:=text_small (cs:=cs) (ps:=x.2.2) (fun p hp=>hz.all p hp)
 have hc:cs.length≤8:=by have:=(errS_zero hS).2.1;rw [colsL_length] at this;exact this
 have h3:10 * x.2.2.length * (cs.length + 1)≤10 * x.2.2.length * 9:=Nat.mul_le_mul_left _ (by omega)
 have h4:=encU_le x.2.1.toNat (by omega)
 unfold entP
 rw [List.length_append]
 omega
end Go.Proofs.YtpcobefhgkiolaaGreatDoor
