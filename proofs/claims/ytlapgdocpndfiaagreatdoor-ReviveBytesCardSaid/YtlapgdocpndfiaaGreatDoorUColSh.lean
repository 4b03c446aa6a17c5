/- -/
import Derived.Test.YtlapgdocpndfiaaGreatDoorUColM
set_option maxHeartbeats 4000000
set_option linter.unusedVariables false
set_option linter.unusedSimpArgs false
set_option maxRecDepth 1000000
namespace Go.Proofs.YtlapgdocpndfiaaGreatDoor
open _root_.Go.Proofs.Tryz
open Go.RowKit
theorem zCJ {l m:Bs} {k:Nat} (hl:k<=l.length) (hm:k<=m.length) (ht:l.take k=m.take k) (h:k < l.length->k < m.length->l.getD k 0≠m.getD k 0):shr l m=k:=zCI hl hm ht h
theorem zsY {l m:Bs} {k:Nat} (hl:k < l.length) (hm:k < m.length) (ht:l.take k=m.take k) (h:l.getD k 0=m.getD k 0):l.take (k + 1)=m.take (k + 1):=by
 rw [List.take_succ_eq_append_getElem hl,List.take_succ_eq_append_getElem hm,ht];simp [List.getD,hl,hm] at h;rw [h]
theorem zuP (s t:ByteArray) (l m:Bs) (w:World) (h1:RdS s l) (h2:RdS t m) :
  Calls prog 242 #[.string s,.string t] w fun e w'=>e=.returned (.int .i64 (shr l m:Nat))/\Below w.heap.size w w':=by
 have hlen1:=h1.len;have hlen2:=h2.len;have hi1:=h1.idx;have hi2:=h2.idx;have hs1:=h1.small;have hs2:=h2.small;have hb0:=h_ (Below.refl w.heap.size w);obtain ⟨p,hp⟩:=nm_ l.length;obtain ⟨q,hq⟩:=nm_ m.length;rw [<- hp] at hlen1 hs1 hi1;rw [<- hq] at hlen2 hs2 hi2;have HP:=h_ hp;have HQ:=h_ hq;clear hp hq h1 h2;go_enter func242,ntmps242;go_wp2;go_loopw [5] (fun i wr=>∃ k:Nat,k<=p/\k<=q/\i=.int .i64 k/\Hid (l.take k=m.take k)/\Hid (Below w.heap.size w wr)) (fun i _=>p - (intOf i).toNat)
 case atStart=>exact ⟨0,by omega,by omega,rfl,h_ rfl,hb0⟩
 obtain ⟨k,hk1,hk2,rfl,HT,HB⟩:=hrel;clear hb0;have HE:=h_ (fun h=>zCJ (l:=l) (m:=m) (k:=k) (by rw [<- HP.o];exact hk1) (by rw [<- HQ.o];exact hk2) HT.o h);by_cases h1:k < p
 ·by_cases h2:k < q
  ·have HN:=h_ (fun h=>zsY (l:=l) (m:=m) (k:=k) (by rw [<- HP.o];exact h1) (by rw [<- HQ.o];exact h2) HT.o h);have x1:=hi1 k h1;have x2:=hi2 k h2;obtain ⟨c,hc⟩:∃ c:Nat,at8 l k=(c:Int):=⟨(l.getD k 0).toNat,rfl⟩;obtain ⟨d,hd⟩:∃ d:Nat,at8 m k=(d:Int):=⟨(m.getD k 0).toNat,rfl⟩;have hcc:(l.getD k 0).toNat=c:=(by unfold at8 at hc;omega);have hdd:(m.getD k 0).toNat=d:=(by unfold at8 at hd;omega);have HC:=h_ hcc;have HD:=h_ hdd;rw [hc] at x1;rw [hd] at x2;clear hcc hdd hc hd hi1 hi2;by_cases he:c=d
   ·have HN2:=h_ (HN.o (UInt8.toNat_inj.1 (by rw [HC.o,HD.o,he])));subst he;clear HE HN HC HD;have hq:((c:Int) == (c:Int))=true:=(by simp);go_wp2;go_quiet (fail);go_wp2;go_roundw
    case rel=>exact ⟨k + 1,by omega,by omega,by go_num,HN2,h_ (Go.below_drewN HB.o _)⟩
    simp [intOf];omega
   have HE2:=h_ (HE.o (fun _ _ h=>he (by rw [<- HC.o,<- HD.o,h])));have hq:((c:Int) == (d:Int))=false:=(by simp;omega);clear HE HN HC HD he;go_wp2;go_quiet (fail);go_wp2;go_ret;exact ⟨by rw [HE2.o];rfl,Go.below_drewN HB.o _⟩
  have HE2:=h_ (HE.o (fun _ h=>absurd (by rw [HQ.o];exact h) h2));clear HE hi1 hi2;go_wp2;go_quiet (fail);go_wp2;go_ret;exact ⟨by rw [HE2.o];rfl,Go.below_drewN HB.o _⟩
 have HE2:=h_ (HE.o (fun h _=>absurd (by rw [HP.o];exact h) h1));clear HE hi1 hi2;go_wp2;go_quiet (fail);go_wp2;go_ret;exact ⟨by rw [HE2.o];rfl,Go.below_drewN HB.o _⟩
/- -/
def ceL (c:CellB):Ce:=(c.1,c.2.data.toList)
def cesL (cs:List CellB):List Ce:=cs.map ceL
theorem za8 (cs:List CellB):(cesL cs).length=cs.length:=by unfold cesL;rw [List.length_map]
theorem zkG {cs:List CellB} {k:Nat} (hk:k < cs.length):(cesL cs).getD k default=ceL (cs.getD k default):=by
 unfold cesL;simp [List.getD,hk]
theorem zgG (cs:List CellB) (k:Nat) (hk:k < cs.length):(cesL cs).take (k + 1)=(cesL cs).take k ++ [ceL (cs.getD k default)]:=by
 rw [zaE (by rw [za8];exact hk) default,zkG hk]
theorem ziP {cs:List CellB} (hC:CES cs) {c:Ce} (h:c ∈ cesL cs):c.1 < 18446744073709551616:=by
 obtain ⟨x,hx,rfl⟩:=List.mem_map.1 h;exact (hC x hx).1
theorem zk0 {kind:Int} {l:List Ce} {k:Nat} (h:errK kind (l.take k)≠0):errK kind l=errK kind (l.take k):=by
 have:=zfH kind (l.take k) (l.drop k);rw [List.take_append_drop,if_pos h] at this;exact this
theorem zE9 {kind:Int} {cs:List CellB} {k:Nat} (hk:k < cs.length) (h0:errK kind ((cesL cs).take k)=0) :
  (checkC kind (cs.getD k default).1 (cs.getD k default).2.data.toList≠0->errK kind (cesL cs)=checkC kind (cs.getD k default).1 (cs.getD k default).2.data.toList) /\
  (checkC kind (cs.getD k default).1 (cs.getD k default).2.data.toList=0->errK kind ((cesL cs).take (k + 1))=0):=by
 have hs:=zgG cs k hk;have e:errK kind ((cesL cs).take (k + 1))=checkC kind (cs.getD k default).1 (cs.getD k default).2.data.toList:=by
  rw [hs,zfH,if_neg (fun h=>h h0),errK];split
  ·rfl
  rename_i hh;rw [errK];exact (Decidable.of_not_not hh).symm
 refine ⟨fun h=>?_,fun h=>by rw [e];exact h⟩;rw [<- e];exact zk0 (by rw [e];exact h)
def lstB (cs:List CellB) (k:Nat):CellB:=if k=0 then (0,⟨#[]⟩) else cs.getD (k - 1) default
theorem zB9 {cs:List CellB}:∀ {k:Nat},k<=cs.length->lst (0,[]) ((cesL cs).take k)=ceL (lstB cs k)
 | 0,_=>by rw [List.take_zero,lst,lstB,if_pos rfl];rfl
 | k + 1,h=>by rw [zgG cs k (by omega),zn7,lstB,if_neg (by omega),Nat.add_sub_cancel]
theorem zA4 {kind:Int} (h2:kind≠2) {cs:List CellB} {k:Nat} (hk:k < cs.length):wrC kind ((cesL cs).take (k + 1))=wrC kind ((cesL cs).take k) ++ pc kind k (ceL (lstB cs k)) (ceL (cs.getD k default)):=by
 unfold wrC;rw [if_neg h2,if_neg h2,zgG cs k hk,zmK,zB9 (by omega),List.length_take,za8,Nat.zero_add,Nat.min_eq_left (by omega)]
theorem zj3:∀ a b,sumT (a ++ b)=sumT a + sumT b
 | [],b=>by simp [sumT]
 | c :: r,b=>by rw [List.cons_append,sumT,sumT,zj3 r b];omega
theorem zwW (l:List Ce) (k:Nat):sumT (l.take k)<=sumT l:=by
 have:=zj3 (l.take k) (l.drop k);rw [List.take_append_drop] at this;omega
theorem zw0 {kind:Int} {cs:List CellB} (hC:CES cs) {k:Nat} (h0:errK kind ((cesL cs).take k)=0):(wrC kind ((cesL cs).take k)).length<=10 * cs.length + sumT (cesL cs):=by
 have hf:=ziL h0 (fun c hc=>ziP hC (List.mem_of_mem_take hc));have h1:=zw1 hf;have h2:=zwW (cesL cs) k;rw [List.length_take,za8] at h1;omega
theorem zy0 {w:World} {base:Nat} {v:Value} {l:Bs} {g:Nat} {c:Array Value} {z:Nat × Nat} (h:Own w base v l) (hg:w.heap[g]?=some (.cells c 82 z)):∀ k,v.ownBlock=some k->k≠g:=by
 rcases h.2 with ⟨rfl,_⟩ | ⟨q,cap,cur,rfl,hb,hq,_⟩
 ·intro k hk;cases hk
 intro k hk;have e:q=k:=by injection hk
 subst e;rintro rfl;rw [hq] at hg;injection hg with hg
 injection hg with h1 h2
 exact absurd h2 (by decide)
theorem zDT {cs:List CellB} (hC:CES cs) {k:Nat} (hk:k<=cs.length) {x:Nat} {s:ByteArray} (h:lstB cs k=(x,s)):s.size<=140737488351232:=by
 unfold lstB at h;split at h
 ·injection h with h1 h2;subst h2;decide
 have:=(hC.get (k:=k - 1) (by omega)).2;rw [h] at this;exact this
theorem zw2 {cs:List CellB} (hC:CES cs) {k:Nat} (hk:k < cs.length) (h0:errK 2 ((cesL cs).take k)=0) {x:Nat} {s:ByteArray} (hg:cs.getD k default=(x,s)) (hx:x<=1) :
  (k % 8=0->wrC 2 ((cesL cs).take (k + 1))=wrC 2 ((cesL cs).take k) ++ [UInt8.ofNat x]) /\
  (k % 8≠0->∃ ini y,wrC 2 ((cesL cs).take k)=ini ++ [y]/\y.toNat < 2 ^ (k % 8)/\wrC 2 ((cesL cs).take (k + 1))=ini ++ [UInt8.ofNat (y.toNat + 2 ^ (k % 8) * x)]):=by
 have hf:=ziL h0 (fun c hc=>ziP hC (List.mem_of_mem_take hc));have hl:(((cesL cs).take k).map fun c:Ce=>c.1).length=k:=by rw [List.length_map,List.length_take,za8];omega
 have hp:=zlP k (((cesL cs).take k).map fun c:Ce=>c.1) x (by rw [hl];omega) (ztL hf).2 hx;rw [hl] at hp;have e:((cesL cs).take (k + 1)).map (fun c:Ce=>c.1)=(((cesL cs).take k).map fun c:Ce=>c.1) ++ [x]:=by
  rw [zgG cs k hk,hg,List.map_append];rfl
 unfold wrC;rw [if_pos rfl,if_pos rfl,e];exact hp
def WrK (w:World) (kind:Int) (cs:List CellB) (e:Ending) (w':World):Prop :=
 ∃ b,e=.returned (.tuple #[b,.int .i64 (wrE kind (cesL cs):Nat)])/\Own w' w.heap.size b (if wrE kind (cesL cs)=0 then wrC kind (cesL cs) else [])/\Below w.heap.size w w'
