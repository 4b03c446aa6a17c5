/- -/
import Derived.Test.YtpcobefhgkiolaaGreatDoorBAppFull
import Derived.Test.YtpcobefhgkiolaaGreatDoorBZSameW
import Derived.Test.YtpcobefhgkiolaaGreatDoorBZDefs
set_option linter.unusedVariables false
set_option linter.unusedSimpArgs false
set_option maxRecDepth 1000000
namespace Go.Proofs.YtpcobefhgkiolaaGreatDoor
open Go.RowKit Go.Shelf
theorem ins_len10 {R:Type} [DecidableEq R] (cmp:R→R→Int) (r:R) (x:Int):∀ ps:List (R × Int),(Z.ins cmp r x ps).length≤ps.length + 1
 | []=>by simp [Z.ins]
 | p :: t=>by
  have ih:=ins_len10 cmp r x t
  rw [Z.ins]
  split
  ·rw [List.length_cons,List.length_cons];omega
  ·split
   ·rw [List.length_cons,List.length_cons];omega
   ·rw [List.length_cons,List.length_cons];omega
theorem from_len10 {R:Type} [DecidableEq R] (cmp:R→R→Int):∀ (ps acc:List (R × Int)),(Z.partsFrom cmp acc ps).length≤acc.length + ps.length
 | [],acc=>by simp [Z.partsFrom]
 | p :: t,acc=>by
  have h1:=ins_len10 cmp p.1 p.2 acc
  have h2:=from_len10 cmp t (Z.ins cmp p.1 p.2 acc)
  have e:Z.partsFrom cmp acc (p :: t)=Z.partsFrom cmp (Z.ins cmp p.1 p.2 acc) t:=rfl
  rw [e,List.length_cons];omega
theorem clc_len (cs:List ColB) (ps:List PairB):(clcO cs ps).length≤ps.length:=by
 unfold clcO
 split
 ·have h1:=from_len10 (cmpR cs) ps []
  have h2:(Z.nz (Z.parts (cmpR cs) ps)).length≤(Z.parts (cmpR cs) ps).length:=List.length_filter_le _ _
  have e:canonC cs ps=Z.nz (Z.parts (cmpR cs) ps):=rfl
  have e2:Z.parts (cmpR cs) ps=Z.partsFrom (cmpR cs) [] ps:=rfl
  rw [e2] at h2 e
  rw [e]
  simp at h1
  omega
 ·simp
end Go.Proofs.YtpcobefhgkiolaaGreatDoor
