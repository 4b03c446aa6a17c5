/- -/
import Derived.Test.YtlapgdocpndfiaaGreatDoorWColM
set_option linter.unusedVariables false
set_option linter.unusedSimpArgs false
set_option maxRecDepth 1000000
namespace Go.Proofs.YtlapgdocpndfiaaGreatDoor
open Go.RowKit
theorem zDP {l m:Bs} {k:Nat} (hl:k<=l.length) (hm:k<=m.length) (ht:l.take k=m.take k) (h:k < l.length->k < m.length->l.getD k 0≠m.getD k 0):shr l m=k:=zB3 hl hm ht h
theorem zzB {l m:Bs} {k:Nat} (hl:k < l.length) (hm:k < m.length) (ht:l.take k=m.take k) (h:l.getD k 0=m.getD k 0):l.take (k + 1)=m.take (k + 1):=by
 rw [List.take_succ_eq_append_getElem hl,List.take_succ_eq_append_getElem hm,ht];simp [List.getD,hl,hm] at h;rw [h]
/- -/
def ceL (c:CellB):Ce:=(c.1,c.2.data.toList)
def cesL (cs:List CellB):List Ce:=cs.map ceL
theorem za6 (cs:List CellB):(cesL cs).length=cs.length:=by unfold cesL;rw [List.length_map]
theorem zkH {cs:List CellB} {k:Nat} (hk:k < cs.length):(cesL cs).getD k default=ceL (cs.getD k default):=by
 unfold cesL;simp [List.getD,hk]
theorem zg1 (cs:List CellB) (k:Nat) (hk:k < cs.length):(cesL cs).take (k + 1)=(cesL cs).take k ++ [ceL (cs.getD k default)]:=by
 rw [zaI (by rw [za6];exact hk) default,zkH hk]
theorem ziH {cs:List CellB} (hC:CES cs) {c:Ce} (h:c ∈ cesL cs):c.1 < 18446744073709551616:=by
 obtain ⟨x,hx,rfl⟩:=List.mem_map.1 h;exact (hC x hx).1
theorem zk0 {kind:Int} {l:List Ce} {k:Nat} (h:errK kind (l.take k)≠0):errK kind l=errK kind (l.take k):=by
 have:=zf7 kind (l.take k) (l.drop k);rw [List.take_append_drop,if_pos h] at this;exact this
theorem zCW {kind:Int} {cs:List CellB} {k:Nat} (hk:k < cs.length) (h0:errK kind ((cesL cs).take k)=0) :
  (checkC kind (cs.getD k default).1 (cs.getD k default).2.data.toList≠0->errK kind (cesL cs)=checkC kind (cs.getD k default).1 (cs.getD k default).2.data.toList) /\
  (checkC kind (cs.getD k default).1 (cs.getD k default).2.data.toList=0->errK kind ((cesL cs).take (k + 1))=0):=by
 have hs:=zg1 cs k hk;have e:errK kind ((cesL cs).take (k + 1))=checkC kind (cs.getD k default).1 (cs.getD k default).2.data.toList:=by
  rw [hs,zf7,if_neg (fun h=>h h0),errK];split
  ·rfl
  rename_i hh;rw [errK];exact (Decidable.of_not_not hh).symm
 refine ⟨fun h=>?_,fun h=>by rw [e];exact h⟩;rw [<- e];exact zk0 (by rw [e];exact h)
def lstB (cs:List CellB) (k:Nat):CellB:=if k=0 then (0,⟨#[]⟩) else cs.getD (k - 1) default
theorem zzV {cs:List CellB}:∀ {k:Nat},k<=cs.length->lst (0,[]) ((cesL cs).take k)=ceL (lstB cs k)
 | 0,_=>by rw [List.take_zero,lst,lstB,if_pos rfl];rfl
 | k + 1,h=>by rw [zg1 cs k (by omega),znB,lstB,if_neg (by omega),Nat.add_sub_cancel]
theorem zyR {kind:Int} (h2:kind≠2) {cs:List CellB} {k:Nat} (hk:k < cs.length):wrC kind ((cesL cs).take (k + 1))=wrC kind ((cesL cs).take k) ++ pc kind k (ceL (lstB cs k)) (ceL (cs.getD k default)):=by
 unfold wrC;rw [if_neg h2,if_neg h2,zg1 cs k hk,zmJ,zzV (by omega),List.length_take,za6,Nat.zero_add,Nat.min_eq_left (by omega)]
theorem ziW:∀ a b,sumT (a ++ b)=sumT a + sumT b
 | [],b=>by simp [sumT]
 | c :: r,b=>by rw [List.cons_append,sumT,sumT,ziW r b];omega
theorem zvQ (l:List Ce) (k:Nat):sumT (l.take k)<=sumT l:=by
 have:=ziW (l.take k) (l.drop k);rw [List.take_append_drop] at this;omega
theorem zuU {kind:Int} {cs:List CellB} (hC:CES cs) {k:Nat} (h0:errK kind ((cesL cs).take k)=0):(wrC kind ((cesL cs).take k)).length<=10 * cs.length + sumT (cesL cs):=by
 have hf:=ziC h0 (fun c hc=>ziH hC (List.mem_of_mem_take hc));have h1:=zuV hf;have h2:=zvQ (cesL cs) k;rw [List.length_take,za6] at h1;omega
theorem zwM {w:World} {base:Nat} {v:Value} {l:Bs} {g:Nat} {c:Array Value} {z:Nat × Nat} (h:Own w base v l) (hg:w.heap[g]?=some (.cells c 82 z)):∀ k,v.ownBlock=some k->k≠g:=by
 rcases h.2 with ⟨rfl,_⟩ | ⟨q,cap,cur,rfl,hb,hq,_⟩
 ·intro k hk;cases hk
 intro k hk;have e:q=k:=by injection hk
 subst e;rintro rfl;rw [hq] at hg;injection hg with hg
 injection hg with h1 h2
 exact absurd h2 (by decide)
theorem zCH {cs:List CellB} (hC:CES cs) {k:Nat} (hk:k<=cs.length) {x:Nat} {s:ByteArray} (h:lstB cs k=(x,s)):s.size<=140737488351232:=by
 unfold lstB at h;split at h
 ·injection h with h1 h2;subst h2;decide
 have:=(hC.get (k:=k - 1) (by omega)).2;rw [h] at this;exact this
theorem zuW {cs:List CellB} (hC:CES cs) {k:Nat} (hk:k < cs.length) (h0:errK 2 ((cesL cs).take k)=0) {x:Nat} {s:ByteArray} (hg:cs.getD k default=(x,s)) (hx:x<=1) :
  (k % 8=0->wrC 2 ((cesL cs).take (k + 1))=wrC 2 ((cesL cs).take k) ++ [UInt8.ofNat x]) /\
  (k % 8≠0->∃ ini y,wrC 2 ((cesL cs).take k)=ini ++ [y]/\y.toNat < 2 ^ (k % 8)/\wrC 2 ((cesL cs).take (k + 1))=ini ++ [UInt8.ofNat (y.toNat + 2 ^ (k % 8) * x)]):=by
 have hf:=ziC h0 (fun c hc=>ziH hC (List.mem_of_mem_take hc));have hl:(((cesL cs).take k).map fun c:Ce=>c.1).length=k:=by rw [List.length_map,List.length_take,za6];omega
 have hp:=zlV k (((cesL cs).take k).map fun c:Ce=>c.1) x (by rw [hl];omega) (zsR hf).2 hx;rw [hl] at hp;have e:((cesL cs).take (k + 1)).map (fun c:Ce=>c.1)=(((cesL cs).take k).map fun c:Ce=>c.1) ++ [x]:=by
  rw [zg1 cs k hk,hg,List.map_append];rfl
 unfold wrC;rw [if_pos rfl,if_pos rfl,e];exact hp
def WrK (w:World) (kind:Int) (cs:List CellB) (e:Ending) (w':World):Prop :=
 ∃ b,e=.returned (.tuple #[b,.int .i64 (wrE kind (cesL cs):Nat)])/\Own w' w.heap.size b (if wrE kind (cesL cs)=0 then wrC kind (cesL cs) else [])/\Below w.heap.size w w'
