/- -/
import Derived.Test.YtpcobefhgkiolaaGreatDoorARdr
import Derived.Test.YtpcobefhgkiolaaGreatDoorAWire
import Derived.Test.YtpcobefhgkiolaaGreatDoorAColM
import Derived.Test.YtpcobefhgkiolaaGreatDoorACrc
import Derived.Test.YtpcobefhgkiolaaGreatDoorAZSameW
import Derived.Test.YtpcobefhgkiolaaGreatDoorAAppFull
set_option linter.unusedVariables false
set_option linter.unusedSimpArgs false
set_option maxRecDepth 1000000
namespace Go.Proofs.YtpcobefhgkiolaaGreatDoor
open Go.RowKit
end Go.Proofs.YtpcobefhgkiolaaGreatDoor


/- -/
namespace Go.Proofs.YtpcobefhgkiolaaGreatDoor
open Go.RowKit
end Go.Proofs.YtpcobefhgkiolaaGreatDoor


/- -/
namespace Go.Proofs.YtpcobefhgkiolaaGreatDoor
open Go.RowKit
end Go.Proofs.YtpcobefhgkiolaaGreatDoor


/- -/
namespace Go.Proofs.YtpcobefhgkiolaaGreatDoor
def frX (k:Nat) (l:List UInt8):List UInt8:=UInt8.ofNat k :: encB l
def frB (k:Nat) (l:List UInt8):List UInt8:=frX k l ++ Crc.put (Crc.sum (frX k l))
def wrF (k:Int) (l:List UInt8):List UInt8 × Nat :=
 if k < 0∨2 < k then ([],10) else if 1048576 < l.length then ([],13) else (frB k.toNat l,0)
theorem frX_length (k:Nat) (l:List UInt8):(frX k l).length=1 + (encU l.length).length + l.length:=by
 simp [frX,encB];omega
theorem frB_length (k:Nat) (l:List UInt8):(frB k l).length=5 + (encU l.length).length + l.length:=by
 rw [frB,List.length_append,frX_length,Crc.put_length];omega
theorem frB_small (k:Nat) {l:List UInt8} (h:l.length≤1048576):(frB k l).length≤1048576 + 15:=by
 have:=encU_le l.length (by omega)
 rw [frB_length];omega
theorem frB_pos (k:Nat) (l:List UInt8):6≤(frB k l).length:=by
 have:=encU_pos l.length
 rw [frB_length];omega
end Go.Proofs.YtpcobefhgkiolaaGreatDoor


/- -/
namespace Go.Proofs.YtpcobefhgkiolaaGreatDoor
open Go.RowKit Go.Shelf
def entP (cs:List ColB) (x:EntB):List UInt8:=encU x.2.1.toNat ++ btWr (kindsL cs) (psL x.2.2)
def entW (cs:List ColB) (x:EntB):List UInt8 × Nat:=if entE cs x≠0 then ([],entE cs x) else wrF (2 - x.1) (entP cs x)
theorem wrF_small (k:Int) (l:List UInt8):(wrF k l).1.length≤1048591:=by
 unfold wrF
 split
 ·simp
 ·split
  ·simp
  ·exact frB_small _ (by omega)
theorem entW_small (cs:List ColB) (x:EntB):(entW cs x).1.length≤1048591:=by
 unfold entW
 split
 ·simp
 ·exact wrF_small _ _
end Go.Proofs.YtpcobefhgkiolaaGreatDoor


/- -/
namespace Go.Proofs.YtpcobefhgkiolaaGreatDoor
open Go.RowKit Go.Shelf
end Go.Proofs.YtpcobefhgkiolaaGreatDoor

