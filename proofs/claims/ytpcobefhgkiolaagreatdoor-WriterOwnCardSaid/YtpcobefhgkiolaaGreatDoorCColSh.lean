/- -/
import Derived.Test.YtpcobefhgkiolaaGreatDoorCColM
import Derived.Deep.QuietTactic
import Derived.BigQuiet
import Derived.Test.YtpcobefhgkiolaaGreatDoorCBaseB
import Derived.Test.YtpcobefhgkiolaaGreatDoorCSchW
import Derived.Test.YtpcobefhgkiolaaGreatDoorCBaseA
import Derived.BigRegion
set_option linter.unusedVariables false
set_option linter.unusedSimpArgs false
set_option maxRecDepth 1000000
namespace Go.Proofs.YtpcobefhgkiolaaGreatDoor
open Go.RowKit
theorem shr_at {l m:List UInt8} {k:Nat} (hl:k≤l.length) (hm:k≤m.length) (ht:l.take k=m.take k) (h:k < l.length→k < m.length→l.getD k 0≠m.getD k 0):shr l m=k:=shr_eq hl hm ht h
theorem shr_next {l m:List UInt8} {k:Nat} (hl:k < l.length) (hm:k < m.length) (ht:l.take k=m.take k) (h:l.getD k 0=m.getD k 0):l.take (k + 1)=m.take (k + 1):=by
 rw [List.take_succ_eq_append_getElem hl,List.take_succ_eq_append_getElem hm,ht]
 simp [List.getD,hl,hm] at h
 rw [h]
end Go.Proofs.YtpcobefhgkiolaaGreatDoor


/- -/
namespace Go.Proofs.YtpcobefhgkiolaaGreatDoor
open Go.RowKit
def ceL (c:CellB):Ce:=(c.1,c.2.data.toList)
def cesL (cs:List CellB):List Ce:=cs.map ceL
theorem cesL_length (cs:List CellB):(cesL cs).length=cs.length:=by unfold cesL;rw [List.length_map]
theorem cesL_getD {cs:List CellB} {k:Nat} (hk:k < cs.length):(cesL cs).getD k default=ceL (cs.getD k default):=by
 unfold cesL;simp [List.getD,hk]
theorem cesL_take (cs:List CellB) (k:Nat) (hk:k < cs.length):(cesL cs).take (k + 1)=(cesL cs).take k ++ [ceL (cs.getD k default)]:=by
 rw [take_succD (by rw [cesL_length];exact hk) default,cesL_getD hk]
theorem ce_cases {cs:List CellB} (hC:CES cs) {c:Ce} (h:c ∈ cesL cs):c.1 < 18446744073709551616:=by
 obtain ⟨x,hx,rfl⟩:=List.mem_map.1 h
 exact (hC x hx).1
theorem errK_take {kind:Int} {l:List Ce} {k:Nat} (h:errK kind (l.take k)≠0):errK kind l=errK kind (l.take k):=by
 have:=errK_append kind (l.take k) (l.drop k)
 rw [List.take_append_drop,if_pos h] at this
 exact this
theorem errK_at {kind:Int} {cs:List CellB} {k:Nat} (hk:k < cs.length) (h0:errK kind ((cesL cs).take k)=0) :
  (checkC kind (cs.getD k default).1 (cs.getD k default).2.data.toList≠0→errK kind (cesL cs)=checkC kind (cs.getD k default).1 (cs.getD k default).2.data.toList) ∧
  (checkC kind (cs.getD k default).1 (cs.getD k default).2.data.toList=0→errK kind ((cesL cs).take (k + 1))=0):=by
 have hs:=cesL_take cs k hk
 have e:errK kind ((cesL cs).take (k + 1))=checkC kind (cs.getD k default).1 (cs.getD k default).2.data.toList:=by
  rw [hs,errK_append,if_neg (fun h=>h h0),errK]
  split
  ·rfl
  ·rename_i hh;rw [errK];exact (Decidable.of_not_not hh).symm
 refine ⟨fun h=>?_,fun h=>by rw [e];exact h⟩
 rw [← e]
 exact errK_take (by rw [e];exact h)
def lstB (cs:List CellB) (k:Nat):CellB:=if k=0 then (0,⟨#[]⟩) else cs.getD (k - 1) default
theorem lst_take {cs:List CellB}:∀ {k:Nat},k≤cs.length→lst (0,[]) ((cesL cs).take k)=ceL (lstB cs k)
 | 0,_=>by rw [List.take_zero,lst,lstB,if_pos rfl];rfl
 | k + 1,h=>by rw [cesL_take cs k (by omega),lst_snoc,lstB,if_neg (by omega),Nat.add_sub_cancel]
theorem wrC_next {kind:Int} (h2:kind≠2) {cs:List CellB} {k:Nat} (hk:k < cs.length):wrC kind ((cesL cs).take (k + 1))=wrC kind ((cesL cs).take k) ++ pc kind k (ceL (lstB cs k)) (ceL (cs.getD k default)):=by
 unfold wrC
 rw [if_neg h2,if_neg h2,cesL_take cs k hk,wrN_snoc,lst_take (by omega),List.length_take,cesL_length,Nat.zero_add,Nat.min_eq_left (by omega)]
theorem sumT_append:∀ a b,sumT (a ++ b)=sumT a + sumT b
 | [],b=>by simp [sumT]
 | c :: r,b=>by rw [List.cons_append,sumT,sumT,sumT_append r b];omega
theorem sumT_take (l:List Ce) (k:Nat):sumT (l.take k)≤sumT l:=by
 have:=sumT_append (l.take k) (l.drop k)
 rw [List.take_append_drop] at this
 omega
theorem wrC_small {kind:Int} {cs:List CellB} (hC:CES cs) {k:Nat} (h0:errK kind ((cesL cs).take k)=0):(wrC kind ((cesL cs).take k)).length≤10 * cs.length + sumT (cesL cs):=by
 have hf:=errK_fit h0 (fun c hc=>ce_cases hC (List.mem_of_mem_take hc))
 have h1:=wrC_le hf
 have h2:=sumT_take (cesL cs) k
 rw [List.length_take,cesL_length] at h1
 omega
theorem own_ne {w:World} {base:Nat} {v:Value} {l:List UInt8} {g:Nat} {c:Array Value} {z:Nat × Nat} (h:Own w base v l) (hg:w.heap[g]?=some (.cells c 83 z)):∀ k,v.ownBlock=some k→k≠g:=by
 rcases h.2 with ⟨rfl,_⟩ | ⟨q,cap,cur,rfl,hb,hq,_⟩
 ·intro k hk;cases hk
 ·intro k hk
  have e:q=k:=by injection hk
  subst e
  rintro rfl
  rw [hq] at hg
  injection hg with hg
  injection hg with h1 h2
  exact absurd h2 (by decide)
theorem lstB_ok {cs:List CellB} (hC:CES cs) {k:Nat} (hk:k≤cs.length) {x:Nat} {s:ByteArray} (h:lstB cs k=(x,s)):s.size≤140737488351232:=by
 unfold lstB at h
 split at h
 ·injection h with h1 h2;subst h2;decide
 ·have:=(hC.get (k:=k - 1) (by omega)).2
  rw [h] at this
  exact this
theorem wrC2_next {cs:List CellB} (hC:CES cs) {k:Nat} (hk:k < cs.length) (h0:errK 2 ((cesL cs).take k)=0) {x:Nat} {s:ByteArray} (hg:cs.getD k default=(x,s)) (hx:x≤1) :
  (k % 8=0→wrC 2 ((cesL cs).take (k + 1))=wrC 2 ((cesL cs).take k) ++ [UInt8.ofNat x]) ∧
  (k % 8≠0→∃ ini y,wrC 2 ((cesL cs).take k)=ini ++ [y]∧y.toNat < 2 ^ (k % 8)∧wrC 2 ((cesL cs).take (k + 1))=ini ++ [UInt8.ofNat (y.toNat + 2 ^ (k % 8) * x)]):=by
 have hf:=errK_fit h0 (fun c hc=>ce_cases hC (List.mem_of_mem_take hc))
 have hl:(((cesL cs).take k).map fun c:Ce=>c.1).length=k:=by rw [List.length_map,List.length_take,cesL_length];omega
 have hp:=packB_snoc k (((cesL cs).take k).map fun c:Ce=>c.1) x (by rw [hl];omega) (fit_bits hf).2 hx
 rw [hl] at hp
 have e:((cesL cs).take (k + 1)).map (fun c:Ce=>c.1)=(((cesL cs).take k).map fun c:Ce=>c.1) ++ [x]:=by
  rw [cesL_take cs k hk,hg,List.map_append];rfl
 unfold wrC
 rw [if_pos rfl,if_pos rfl,e]
 exact hp
def WrK (w:World) (kind:Int) (cs:List CellB) (e:Ending) (w':World):Prop :=
 ∃ b,e=.returned (.tuple #[b,.int .i64 (wrE kind (cesL cs):Nat)])∧Own w' w.heap.size b (if wrE kind (cesL cs)=0 then wrC kind (cesL cs) else [])∧Below w.heap.size w w'
end Go.Proofs.YtpcobefhgkiolaaGreatDoor

