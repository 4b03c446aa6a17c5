/- -/
import Derived.Test.YthmphifdiogedaaGreatDoorDColM
set_option maxHeartbeats 4000000
set_option linter.unusedVariables false
set_option linter.unusedSimpArgs false
set_option maxRecDepth 1000000
namespace Go.Proofs.YthmphifdiogedaaGreatDoor
open Go.RowKit
theorem shr_at {l m:List UInt8} {k:Nat} (hl:k≤l.length) (hm:k≤m.length) (ht:l.take k=m.take k) (h:k < l.length→k < m.length→l.getD k 0≠m.getD k 0):shr l m=k:=shr_eq hl hm ht h
theorem shr_next {l m:List UInt8} {k:Nat} (hl:k < l.length) (hm:k < m.length) (ht:l.take k=m.take k) (h:l.getD k 0=m.getD k 0):l.take (k + 1)=m.take (k + 1):=by
 rw [List.take_succ_eq_append_getElem hl,List.take_succ_eq_append_getElem hm,ht]
 simp [List.getD,hl,hm] at h
 rw [h]
theorem zkD (s t:ByteArray) (l m:List UInt8) (w:World) (h1:RdS s l) (h2:RdS t m) :
  Calls Tryz.prog 142 #[.string s,.string t] w fun e w'=>e=.returned (.int .i64 (shr l m:Nat))∧Below w.heap.size w w':=by
 have hlen1:=h1.len
 have hlen2:=h2.len
 have hi1:=h1.idx
 have hi2:=h2.idx
 have hs1:=h1.small
 have hs2:=h2.small
 have hb0:=h_ (Below.refl w.heap.size w)
 obtain ⟨p,hp⟩:∃ p,p=l.length:=⟨_,rfl⟩
 obtain ⟨q,hq⟩:∃ q,q=m.length:=⟨_,rfl⟩
 rw [← hp] at hlen1 hs1 hi1
 rw [← hq] at hlen2 hs2 hi2
 have HP:=h_ hp
 have HQ:=h_ hq
 clear hp hq h1 h2
 go_enter Tryz.func142,Tryz.ntmps142
 go_wp2
 go_loopw [5] (fun i wr=>∃ k:Nat,k≤p∧k≤q∧i=.int .i64 k∧Hid (l.take k=m.take k)∧Hid (Below w.heap.size w wr)) (fun i _=>p - (intOf i).toNat)
 case atStart=>exact ⟨0,by omega,by omega,rfl,h_ rfl,hb0⟩
 case round =>
  obtain ⟨k,hk1,hk2,rfl,HT,HB⟩:=hrel
  clear hb0
  have HE:=h_ (fun h=>shr_at (l:=l) (m:=m) (k:=k) (by rw [← HP.out];exact hk1) (by rw [← HQ.out];exact hk2) HT.out h)
  by_cases h1:k < p
  ·by_cases h2:k < q
   ·have HN:=h_ (fun h=>shr_next (l:=l) (m:=m) (k:=k) (by rw [← HP.out];exact h1) (by rw [← HQ.out];exact h2) HT.out h)
    have x1:=hi1 k h1
    have x2:=hi2 k h2
    obtain ⟨c,hc⟩:∃ c:Nat,at8 l k=(c:Int):=⟨(l.getD k 0).toNat,rfl⟩
    obtain ⟨d,hd⟩:∃ d:Nat,at8 m k=(d:Int):=⟨(m.getD k 0).toNat,rfl⟩
    have hcc:(l.getD k 0).toNat=c:=by unfold at8 at hc;omega
    have hdd:(m.getD k 0).toNat=d:=by unfold at8 at hd;omega
    have HC:=h_ hcc
    have HD:=h_ hdd
    rw [hc] at x1
    rw [hd] at x2
    clear hcc hdd hc hd hi1 hi2
    by_cases he:c=d
    ·have HN2:=h_ (HN.out (UInt8.toNat_inj.1 (by rw [HC.out,HD.out,he])))
     subst he
     clear HE HN HC HD
     have hq:((c:Int) == (c:Int))=true:=by simp
     go_wp2
     go_quiet (fail)
     go_wp2
     go_roundw
     case rel=>exact ⟨k + 1,by omega,by omega,by go_num,HN2,h_ (Go.below_drewN HB.out _)⟩
     case measure=>simp [intOf];omega
    ·have HE2:=h_ (HE.out (fun _ _ h=>he (by rw [← HC.out,← HD.out,h])))
     have hq:((c:Int) == (d:Int))=false:=by simp;omega
     clear HE HN HC HD he
     go_wp2
     go_quiet (fail)
     go_wp2
     go_ret
     exact ⟨by rw [HE2.out];rfl,Go.below_drewN HB.out _⟩
   ·have HE2:=h_ (HE.out (fun _ h=>absurd (by rw [HQ.out];exact h) h2))
    clear HE hi1 hi2
    go_wp2
    go_quiet (fail)
    go_wp2
    go_ret
    exact ⟨by rw [HE2.out];rfl,Go.below_drewN HB.out _⟩
  ·have HE2:=h_ (HE.out (fun h _=>absurd (by rw [HP.out];exact h) h1))
   clear HE hi1 hi2
   go_wp2
   go_quiet (fail)
   go_wp2
   go_ret
   exact ⟨by rw [HE2.out];rfl,Go.below_drewN HB.out _⟩


/- -/
def ceL (c:CellB):Ce:=(c.1,c.2.data.toList)
def cesL (cs:List CellB):List Ce:=cs.map ceL
theorem za6 (cs:List CellB):(cesL cs).length=cs.length:=by unfold cesL;rw [List.length_map]
theorem zjE {cs:List CellB} {k:Nat} (hk:k < cs.length):(cesL cs).getD k default=ceL (cs.getD k default):=by
 unfold cesL;simp [List.getD,hk]
theorem zfV (cs:List CellB) (k:Nat) (hk:k < cs.length):(cesL cs).take (k + 1)=(cesL cs).take k ++ [ceL (cs.getD k default)]:=by
 rw [zaD (by rw [za6];exact hk) default,zjE hk]
theorem zhT {cs:List CellB} (hC:CES cs) {c:Ce} (h:c ∈ cesL cs):c.1 < 18446744073709551616:=by
 obtain ⟨x,hx,rfl⟩:=List.mem_map.1 h
 exact (hC x hx).1
theorem ziZ {kind:Int} {l:List Ce} {k:Nat} (h:errK kind (l.take k)≠0):errK kind l=errK kind (l.take k):=by
 have:=zf7 kind (l.take k) (l.drop k)
 rw [List.take_append_drop,if_pos h] at this
 exact this
theorem errK_at {kind:Int} {cs:List CellB} {k:Nat} (hk:k < cs.length) (h0:errK kind ((cesL cs).take k)=0) :
  (checkC kind (cs.getD k default).1 (cs.getD k default).2.data.toList≠0→errK kind (cesL cs)=checkC kind (cs.getD k default).1 (cs.getD k default).2.data.toList) ∧
  (checkC kind (cs.getD k default).1 (cs.getD k default).2.data.toList=0→errK kind ((cesL cs).take (k + 1))=0):=by
 have hs:=zfV cs k hk
 have e:errK kind ((cesL cs).take (k + 1))=checkC kind (cs.getD k default).1 (cs.getD k default).2.data.toList:=by
  rw [hs,zf7,if_neg (fun h=>h h0),errK]
  split
  ·rfl
  ·rename_i hh;rw [errK];exact (Decidable.of_not_not hh).symm
 refine ⟨fun h=>?_,fun h=>by rw [e];exact h⟩
 rw [← e]
 exact ziZ (by rw [e];exact h)
def lstB (cs:List CellB) (k:Nat):CellB:=if k=0 then (0,⟨#[]⟩) else cs.getD (k - 1) default
theorem lst_take {cs:List CellB}:∀ {k:Nat},k≤cs.length→lst (0,[]) ((cesL cs).take k)=ceL (lstB cs k)
 | 0,_=>by rw [List.take_zero,lst,lstB,if_pos rfl];rfl
 | k + 1,h=>by rw [zfV cs k (by omega),lst_snoc,lstB,if_neg (by omega),Nat.add_sub_cancel]
theorem wrC_next {kind:Int} (h2:kind≠2) {cs:List CellB} {k:Nat} (hk:k < cs.length):wrC kind ((cesL cs).take (k + 1))=wrC kind ((cesL cs).take k) ++ pc kind k (ceL (lstB cs k)) (ceL (cs.getD k default)):=by
 unfold wrC
 rw [if_neg h2,if_neg h2,zfV cs k hk,wrN_snoc,lst_take (by omega),List.length_take,za6,Nat.zero_add,Nat.min_eq_left (by omega)]
theorem zi6:∀ a b,sumT (a ++ b)=sumT a + sumT b
 | [],b=>by simp [sumT]
 | c :: r,b=>by rw [List.cons_append,sumT,sumT,zi6 r b];omega
theorem sumT_take (l:List Ce) (k:Nat):sumT (l.take k)≤sumT l:=by
 have:=zi6 (l.take k) (l.drop k)
 rw [List.take_append_drop] at this
 omega
theorem wrC_small {kind:Int} {cs:List CellB} (hC:CES cs) {k:Nat} (h0:errK kind ((cesL cs).take k)=0):(wrC kind ((cesL cs).take k)).length≤10 * cs.length + sumT (cesL cs):=by
 have hf:=zhP h0 (fun c hc=>zhT hC (List.mem_of_mem_take hc))
 have h1:=wrC_le hf
 have h2:=sumT_take (cesL cs) k
 rw [List.length_take,za6] at h1
 omega
theorem own_ne {w:World} {base:Nat} {v:Value} {l:List UInt8} {g:Nat} {c:Array Value} {z:Nat × Nat} (h:Own w base v l) (hg:w.heap[g]?=some (.cells c 151 z)):∀ k,v.ownBlock=some k→k≠g:=by
 rcases h.2 with ⟨rfl,_⟩ | ⟨q,cap,cur,rfl,hb,hq,_⟩
 ·intro k hk;cases hk
 ·intro k hk
  have e:q=k:=by injection hk
  subst e
  rintro rfl
  rw [hq] at hg
  injection hg with hg
  injection hg with h1 h2
  exact absurd h2 (by decide)
theorem lstB_ok {cs:List CellB} (hC:CES cs) {k:Nat} (hk:k≤cs.length) {x:Nat} {s:ByteArray} (h:lstB cs k=(x,s)):s.size≤140737488351232:=by
 unfold lstB at h
 split at h
 ·injection h with h1 h2;subst h2;decide
 ·have:=(hC.get (k:=k - 1) (by omega)).2
  rw [h] at this
  exact this
theorem wrC2_next {cs:List CellB} (hC:CES cs) {k:Nat} (hk:k < cs.length) (h0:errK 2 ((cesL cs).take k)=0) {x:Nat} {s:ByteArray} (hg:cs.getD k default=(x,s)) (hx:x≤1) :
  (k % 8=0→wrC 2 ((cesL cs).take (k + 1))=wrC 2 ((cesL cs).take k) ++ [UInt8.ofNat x]) ∧
  (k % 8≠0→∃ ini y,wrC 2 ((cesL cs).take k)=ini ++ [y]∧y.toNat < 2 ^ (k % 8)∧wrC 2 ((cesL cs).take (k + 1))=ini ++ [UInt8.ofNat (y.toNat + 2 ^ (k % 8) * x)]):=by
 have hf:=zhP h0 (fun c hc=>zhT hC (List.mem_of_mem_take hc))
 have hl:(((cesL cs).take k).map fun c:Ce=>c.1).length=k:=by rw [List.length_map,List.length_take,za6];omega
 have hp:=zkL k (((cesL cs).take k).map fun c:Ce=>c.1) x (by rw [hl];omega) (fit_bits hf).2 hx
 rw [hl] at hp
 have e:((cesL cs).take (k + 1)).map (fun c:Ce=>c.1)=(((cesL cs).take k).map fun c:Ce=>c.1) ++ [x]:=by
  rw [zfV cs k hk,hg,List.map_append];rfl
 unfold wrC
 rw [if_pos rfl,if_pos rfl,e]
 exact hp
def WrK (w:World) (kind:Int) (cs:List CellB) (e:Ending) (w':World):Prop :=
 ∃ b,e=.returned (.tuple #[b,.int .i64 (wrE kind (cesL cs):Nat)])∧Own w' w.heap.size b (if wrE kind (cesL cs)=0 then wrC kind (cesL cs) else [])∧Below w.heap.size w w'
end Go.Proofs.YthmphifdiogedaaGreatDoor

