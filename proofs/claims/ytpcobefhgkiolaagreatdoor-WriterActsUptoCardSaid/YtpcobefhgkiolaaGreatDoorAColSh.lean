/- -/
import Derived.Test.YtpcobefhgkiolaaGreatDoorAColM
import Derived.Deep.QuietTactic
import Derived.BigQuiet
import Derived.Test.YtpcobefhgkiolaaGreatDoorABaseB
import Derived.Test.YtpcobefhgkiolaaGreatDoorASchW
import Derived.Test.YtpcobefhgkiolaaGreatDoorABaseA
import Derived.BigRegion
set_option linter.unusedVariables false
set_option linter.unusedSimpArgs false
set_option maxRecDepth 1000000
namespace Go.Proofs.YtpcobefhgkiolaaGreatDoor
open Go.RowKit
theorem shr_at {l m:List UInt8} {k:Nat} (hl:k≤l.length) (hm:k≤m.length) (ht:l.take k=m.take k) (h:k < l.length→k < m.length→l.getD k 0≠m.getD k 0):shr l m=k:=shr_eq hl hm ht h
theorem shr_next {l m:List UInt8} {k:Nat} (hl:k < l.length) (hm:k < m.length) (ht:l.take k=m.take k) (h:l.getD k 0=m.getD k 0):l.take (k + 1)=m.take (k + 1):=by
 rw [List.take_succ_eq_append_getElem hl,List.take_succ_eq_append_getElem hm,ht]
 simp [List.getD,hl,hm] at h
 rw [h]
set_option maxHeartbeats 4000000 in
theorem ref_Shared (s t:ByteArray) (l m:List UInt8) (w:World) (h1:RdS s l) (h2:RdS t m) :
  Calls Tryz.prog 200 #[.string s,.string t] w fun e w'=>e=.returned (.int .i64 (shr l m:Nat))∧Below w.heap.size w w':=by
 have hlen1:=h1.len
 have hlen2:=h2.len
 have hi1:=h1.idx
 have hi2:=h2.idx
 have hs1:=h1.small
 have hs2:=h2.small
 have hb0:=h_ (Below.refl w.heap.size w)
 obtain ⟨p,hp⟩:∃ p,p=l.length:=⟨_,rfl⟩
 obtain ⟨q,hq⟩:∃ q,q=m.length:=⟨_,rfl⟩
 rw [← hp] at hlen1 hs1 hi1
 rw [← hq] at hlen2 hs2 hi2
 have HP:=h_ hp
 have HQ:=h_ hq
 clear hp hq h1 h2
 go_enter Tryz.func200,Tryz.ntmps200
 go_wp2
 go_loopw [5] (fun i wr=>∃ k:Nat,k≤p∧k≤q∧i=.int .i64 k∧Hid (l.take k=m.take k)∧Hid (Below w.heap.size w wr)) (fun i _=>p - (intOf i).toNat)
 case atStart=>exact ⟨0,by omega,by omega,rfl,h_ rfl,hb0⟩
 case round =>
  obtain ⟨k,hk1,hk2,rfl,HT,HB⟩:=hrel
  clear hb0
  have HE:=h_ (fun h=>shr_at (l:=l) (m:=m) (k:=k) (by rw [← HP.out];exact hk1) (by rw [← HQ.out];exact hk2) HT.out h)
  by_cases h1:k < p
  ·by_cases h2:k < q
   ·have HN:=h_ (fun h=>shr_next (l:=l) (m:=m) (k:=k) (by rw [← HP.out];exact h1) (by rw [← HQ.out];exact h2) HT.out h)
    have x1:=hi1 k h1
    have x2:=hi2 k h2
    obtain ⟨c,hc⟩:∃ c:Nat,at8 l k=(c:Int):=⟨(l.getD k 0).toNat,rfl⟩
    obtain ⟨d,hd⟩:∃ d:Nat,at8 m k=(d:Int):=⟨(m.getD k 0).toNat,rfl⟩
    have hcc:(l.getD k 0).toNat=c:=by unfold at8 at hc;omega
    have hdd:(m.getD k 0).toNat=d:=by unfold at8 at hd;omega
    have HC:=h_ hcc
    have HD:=h_ hdd
    rw [hc] at x1
    rw [hd] at x2
    clear hcc hdd hc hd hi1 hi2
    by_cases he:c=d
    ·have HN2:=h_ (HN.out (UInt8.toNat_inj.1 (by rw [HC.out,HD.out,he])))
     subst he
     clear HE HN HC HD
     have hq:((c:Int) == (c:Int))=true:=by simp
     go_wp2
     go_quiet (fail)
     go_wp2
     go_roundw
     case rel=>exact ⟨k + 1,by omega,by omega,by go_num,HN2,h_ (Go.below_drewN HB.out _)⟩
     case measure=>simp [intOf];omega
    ·have HE2:=h_ (HE.out (fun _ _ h=>he (by rw [← HC.out,← HD.out,h])))
     have hq:((c:Int) == (d:Int))=false:=by simp;omega
     clear HE HN HC HD he
     go_wp2
     go_quiet (fail)
     go_wp2
     go_ret
     exact ⟨by rw [HE2.out];rfl,Go.below_drewN HB.out _⟩
   ·have HE2:=h_ (HE.out (fun _ h=>absurd (by rw [HQ.out];exact h) h2))
    clear HE hi1 hi2
    go_wp2
    go_quiet (fail)
    go_wp2
    go_ret
    exact ⟨by rw [HE2.out];rfl,Go.below_drewN HB.out _⟩
  ·have HE2:=h_ (HE.out (fun h _=>absurd (by rw [HP.out];exact h) h1))
   clear HE hi1 hi2
   go_wp2
   go_quiet (fail)
   go_wp2
   go_ret
   exact ⟨by rw [HE2.out];rfl,Go.below_drewN HB.out _⟩
end Go.Proofs.YtpcobefhgkiolaaGreatDoor


/- -/
namespace Go.Proofs.YtpcobefhgkiolaaGreatDoor
open Go.RowKit
def ceL (c:CellB):Ce:=(c.1,c.2.data.toList)
def cesL (cs:List CellB):List Ce:=cs.map ceL
theorem cesL_length (cs:List CellB):(cesL cs).length=cs.length:=by unfold cesL;rw [List.length_map]
theorem cesL_getD {cs:List CellB} {k:Nat} (hk:k < cs.length):(cesL cs).getD k default=ceL (cs.getD k default):=by
 unfold cesL;simp [List.getD,hk]
theorem cesL_take (cs:List CellB) (k:Nat) (hk:k < cs.length):(cesL cs).take (k + 1)=(cesL cs).take k ++ [ceL (cs.getD k default)]:=by
 rw [take_succD (by rw [cesL_length];exact hk) default,cesL_getD hk]
theorem ce_cases {cs:List CellB} (hC:CES cs) {c:Ce} (h:c ∈ cesL cs):c.1 < 18446744073709551616:=by
 obtain ⟨x,hx,rfl⟩:=List.mem_map.1 h
 exact (hC x hx).1
theorem errK_take {kind:Int} {l:List Ce} {k:Nat} (h:errK kind (l.take k)≠0):errK kind l=errK kind (l.take k):=by
 have:=errK_append kind (l.take k) (l.drop k)
 rw [List.take_append_drop,if_pos h] at this
 exact this
theorem errK_at {kind:Int} {cs:List CellB} {k:Nat} (hk:k < cs.length) (h0:errK kind ((cesL cs).take k)=0) :
  (checkC kind (cs.getD k default).1 (cs.getD k default).2.data.toList≠0→errK kind (cesL cs)=checkC kind (cs.getD k default).1 (cs.getD k default).2.data.toList) ∧
  (checkC kind (cs.getD k default).1 (cs.getD k default).2.data.toList=0→errK kind ((cesL cs).take (k + 1))=0):=by
 have hs:=cesL_take cs k hk
 have e:errK kind ((cesL cs).take (k + 1))=checkC kind (cs.getD k default).1 (cs.getD k default).2.data.toList:=by
  rw [hs,errK_append,if_neg (fun h=>h h0),errK]
  split
  ·rfl
  ·rename_i hh;rw [errK];exact (Decidable.of_not_not hh).symm
 refine ⟨fun h=>?_,fun h=>by rw [e];exact h⟩
 rw [← e]
 exact errK_take (by rw [e];exact h)
def lstB (cs:List CellB) (k:Nat):CellB:=if k=0 then (0,⟨#[]⟩) else cs.getD (k - 1) default
theorem lst_take {cs:List CellB}:∀ {k:Nat},k≤cs.length→lst (0,[]) ((cesL cs).take k)=ceL (lstB cs k)
 | 0,_=>by rw [List.take_zero,lst,lstB,if_pos rfl];rfl
 | k + 1,h=>by rw [cesL_take cs k (by omega),lst_snoc,lstB,if_neg (by omega),Nat.add_sub_cancel]
theorem wrC_next {kind:Int} (h2:kind≠2) {cs:List CellB} {k:Nat} (hk:k < cs.length):wrC kind ((cesL cs).take (k + 1))=wrC kind ((cesL cs).take k) ++ pc kind k (ceL (lstB cs k)) (ceL (cs.getD k default)):=by
 unfold wrC
 rw [if_neg h2,if_neg h2,cesL_take cs k hk,wrN_snoc,lst_take (by omega),List.length_take,cesL_length,Nat.zero_add,Nat.min_eq_left (by omega)]
theorem sumT_append:∀ a b,sumT (a ++ b)=sumT a + sumT b
 | [],b=>by simp [sumT]
 | c :: r,b=>by rw [List.cons_append,sumT,sumT,sumT_append r b];omega
theorem sumT_take (l:List Ce) (k:Nat):sumT (l.take k)≤sumT l:=by
 have:=sumT_append (l.take k) (l.drop k)
 rw [List.take_append_drop] at this
 omega
theorem wrC_small {kind:Int} {cs:List CellB} (hC:CES cs) {k:Nat} (h0:errK kind ((cesL cs).take k)=0):(wrC kind ((cesL cs).take k)).length≤10 * cs.length + sumT (cesL cs):=by
 have hf:=errK_fit h0 (fun c hc=>ce_cases hC (List.mem_of_mem_take hc))
 have h1:=wrC_le hf
 have h2:=sumT_take (cesL cs) k
 rw [List.length_take,cesL_length] at h1
 omega
theorem own_ne {w:World} {base:Nat} {v:Value} {l:List UInt8} {g:Nat} {c:Array Value} {z:Nat × Nat} (h:Own w base v l) (hg:w.heap[g]?=some (.cells c 83 z)):∀ k,v.ownBlock=some k→k≠g:=by
 rcases h.2 with ⟨rfl,_⟩ | ⟨q,cap,cur,rfl,hb,hq,_⟩
 ·intro k hk;cases hk
 ·intro k hk
  have e:q=k:=by injection hk
  subst e
  rintro rfl
  rw [hq] at hg
  injection hg with hg
  injection hg with h1 h2
  exact absurd h2 (by decide)
theorem own_blk {w:World} {base:Nat} {v:Value} {l:List UInt8} (h:Own w base v l) {i:Nat} (hi:i < l.length):v.ownBlock=some (adr v i).block:=by
 rcases h.2 with ⟨rfl,hn⟩ | ⟨q,cap,cur,rfl,hb,hq,_⟩
 ·exact absurd hi (by omega)
 ·have e:adr (.slice (some ⟨q,0,none⟩) l.length cap) i=⟨q,i,none⟩:=by
   simp only [adr,Addr.add];split <;> simp_all
  rw [e];rfl
theorem Own.grown9 {w w':World} {base:Nat} {v:Value} {l:List UInt8} (h:Own w base v l) {r:Option Nat} (hg:w.grownBy w' r) (hne:∀ k,v.ownBlock=some k→some k≠r):Own w' base v l:=by
 refine ⟨h.1,?_⟩
 rcases h.2 with h2 | ⟨g,cap,cur,rfl,hbg,hgg,q⟩
 ·exact .inl h2
 ·refine .inr ⟨g,cap,cur,rfl,hbg,?_,q⟩
  rw [hg.block g (Array.getElem?_eq_some_iff.1 hgg).1 (hne g rfl)];exact hgg
theorem lstB_ok {cs:List CellB} (hC:CES cs) {k:Nat} (hk:k≤cs.length) {x:Nat} {s:ByteArray} (h:lstB cs k=(x,s)):s.size≤140737488351232:=by
 unfold lstB at h
 split at h
 ·injection h with h1 h2;subst h2;decide
 ·have:=(hC.get (k:=k - 1) (by omega)).2
  rw [h] at this
  exact this
theorem wrC2_next {cs:List CellB} (hC:CES cs) {k:Nat} (hk:k < cs.length) (h0:errK 2 ((cesL cs).take k)=0) {x:Nat} {s:ByteArray} (hg:cs.getD k default=(x,s)) (hx:x≤1) :
  (k % 8=0→wrC 2 ((cesL cs).take (k + 1))=wrC 2 ((cesL cs).take k) ++ [UInt8.ofNat x]) ∧
  (k % 8≠0→∃ ini y,wrC 2 ((cesL cs).take k)=ini ++ [y]∧y.toNat < 2 ^ (k % 8)∧wrC 2 ((cesL cs).take (k + 1))=ini ++ [UInt8.ofNat (y.toNat + 2 ^ (k % 8) * x)]):=by
 have hf:=errK_fit h0 (fun c hc=>ce_cases hC (List.mem_of_mem_take hc))
 have hl:(((cesL cs).take k).map fun c:Ce=>c.1).length=k:=by rw [List.length_map,List.length_take,cesL_length];omega
 have hp:=packB_snoc k (((cesL cs).take k).map fun c:Ce=>c.1) x (by rw [hl];omega) (fit_bits hf).2 hx
 rw [hl] at hp
 have e:((cesL cs).take (k + 1)).map (fun c:Ce=>c.1)=(((cesL cs).take k).map fun c:Ce=>c.1) ++ [x]:=by
  rw [cesL_take cs k hk,hg,List.map_append];rfl
 unfold wrC
 rw [if_pos rfl,if_pos rfl,e]
 exact hp
def WrK (w:World) (kind:Int) (cs:List CellB) (e:Ending) (w':World):Prop :=
 ∃ b,e=.returned (.tuple #[b,.int .i64 (wrE kind (cesL cs):Nat)])∧Own w' w.heap.size b (if wrE kind (cesL cs)=0 then wrC kind (cesL cs) else [])∧Below w.heap.size w w'
set_option maxHeartbeats 16000000 in
theorem ref_Write09a (v:Value) (cs:List CellB) (w:World) (hv:RdE w v cs) (hC:CES cs) (hk:0≤(0:Int)∧(0:Int)≤5) (hs:10 * cs.length + sumT (cesL cs)≤1000000) :
  Calls Tryz.prog 151 #[.int .i64 0,v] w (WrK w (0:Int) cs):=by
 have hlen:=hv.len
 have hsm:=hv.small
 obtain ⟨n,hn⟩:∃ n,n=cs.length:=⟨_,rfl⟩
 rw [← hn] at hlen hsm
 have HN:=h_ hn
 have HV:=h_ hv
 have HC:=h_ hC
 have HS:=h_ hs
 have d1:decide ((0:Int) < 0)=false:=decide_eq_false (by omega)
 have d2:decide ((0:Int) > 5)=false:=decide_eq_false (by omega)
 have HE:=h_ (show wrE (0:Int) (cesL cs)=errK (0:Int) (cesL cs) by unfold wrE;rw [if_neg (by omega)])
 have HK:=h_ hk
 clear hv hC hs hn hk
 have hB0:Below w.heap.size w (w.alloc (.cells #[.int .u64 0,.string ⟨#[]⟩] 83)):=(Below.refl _ _).alloc l_ _
 have HB0:=h_ hB0
 have hrow0:(w.alloc (.cells #[.int .u64 0,.string ⟨#[]⟩] 83)).heap[w.heap.size]?=some (.cells #[.int .u64 0,.string ⟨#[]⟩] 83 (0,0)):=heap_alloc_new w _
 have HR0:=h_ hrow0
 have hz0:w.heap.size + 1≤(w.alloc (.cells #[.int .u64 0,.string ⟨#[]⟩] 83)).heap.size:=by rw [World.size_alloc];omega
 have HZ0:=h_ hz0
 clear hB0 hrow0 hz0
 go_enter Tryz.func151,Tryz.ntmps151
 go_wp2
 go_loopw [6,8] (fun a i wr=>∃ k:Nat,k≤n∧i=.int .i64 k∧Hid (Below w.heap.size w wr)∧Hid (Own wr (w.heap.size + 1) a (wrC (0:Int) ((cesL cs).take k)))∧Hid (errK (0:Int) ((cesL cs).take k)=0)∧Hid (wr.heap[w.heap.size]?=some (.cells #[.int .u64 ((lstB cs k).1:Int),.string (lstB cs k).2] 83 (0,0)))∧Hid (w.heap.size + 1≤wr.heap.size)) (fun _ i _=>n - (intOf i).toNat)
 case atStart=>exact ⟨0,by omega,rfl,HB0,h_ (by rw [List.take_zero,show wrC (0:Int) []=[] from by unfold wrC;split;exact packB_nil;rfl];exact own_nil _ _),h_ rfl,HR0,HZ0⟩
 case round =>
  clear HB0 HR0 HZ0
  obtain ⟨k,hk,rfl,HB,HO,HK0,HR,HZ⟩:=hrel
  by_cases hlt:k < n
  ·have kl:k < cs.length:=by rw [← HN.out];exact hlt
   have hr:=HV.out.later HB.out l_
   obtain ⟨b,o,hidx,hcell,hblk⟩:=hr.get kl
   obtain ⟨hc0,hc1⟩:=hcell _ hr
   obtain ⟨ha1,ha2⟩:=errK_at kl HK0.out
   have HA1:=h_ ha1
   have HA2:=h_ ha2
   obtain ⟨g1,g2⟩:=CES.get HC.out kl
   have HNx:=h_ (@wrC_next (0:Int))
   have hcl:=cesL_take cs k kl
   have HCL:=h_ hcl
   have HLs:=h_ (show lstB cs (k + 1)=cs.getD k default from by unfold lstB;rw [if_neg (by omega),Nat.add_sub_cancel])
   rcases hcg:cs.getD k default with ⟨x,s⟩
   rw [hcg] at HLs
   have HCell:=h_ hcell
   rw [hcg] at hc0 hc1 HA1 HA2 g1 g2 HCL HCell
   have HCG:=h_ hcg
   dsimp only at hc0 hc1 g1 g2
   have hS:=rdS_of g2
   obtain ⟨t,ht⟩:∃ t,t=s.data.toList:=⟨_,rfl⟩
   have HT:=h_ ht
   rw [← ht] at hS
   have HSt:=h_ hS
   rcases hlg:lstB cs k with ⟨px,ps⟩
   rw [hlg] at HR
   have HLG:=h_ hlg
   have CK:=h_ (fun wz=>ref_Check (0:Int) x s t wz HSt.out (by have:=HK.out;omega) g1)
   obtain ⟨y,hy⟩:∃ y,y=checkC (0:Int) x t:=⟨_,rfl⟩
   have HY:=h_ hy
   rw [← hy] at CK
   clear hr hcell ha1 ha2 hcl hcg hS ht hlg g2 hy
   go_wp2_with fail
   refine (CK.out _).mono ?_
   rintro e w4 ⟨rfl,hb⟩
   have hz4:wr.heap.size≤w4.heap.size:=hb.size
   have HB4:=h_ (HB.out.trans (hb.mono HB.out.size))
   have HO4:=h_ (HO.out.later hb l_)
   have HR4:=h_ ((hb.block w.heap.size (by have:=HZ.out;omega)).trans HR.out)
   have HZ4:=h_ (show w.heap.size + 1≤w4.heap.size by have:=HZ.out;omega)
   obtain ⟨hc0,hc1⟩:=HCell.out w4 (HV.out.later HB4.out l_)
   try dsimp only at hc0 hc1
   clear hb hz4 CK HB HO HR HZ
   by_cases hy0:y=0
   ·have hyb:((y:Int) != 0)=false:=by rw [bne_eq_false_iff_eq];omega
    have HEk:=h_ (HA2.out (by rw [← HT.out,← HY.out];exact hy0))
    have hfit:Fit (0:Int) (x,t):=⟨by rw [← HY.out];exact hy0,g1⟩
    have HF:=h_ hfit
    clear hfit HA1 HA2
    have h34:¬ ((0:Int)=3∨(0:Int)=4):=by omega
    by_cases hk0:k=0
    ·subst hk0
     rw [show ((0:Nat):Int)=0 from rfl] at hidx
     have HI:=h_ (show ¬ (0=0∧(0:Int)≠0) from fun h=>h.2 rfl)
     have HLen:=h_ (wrC_small HC.out HK0.out)
     have HLen:=h_ (show (wrC (0:Int) ((cesL cs).take 0)).length≤1000000 by have:=HLen.out;have:=HS.out;omega)
     have HB6:=h_ (show Below w.heap.size w (w4.alloc (.cells #[.int .u64 (x:Int),.string s] 83)) from HB4.out.alloc HB4.out.size _)
     have HO6:=h_ (show Own (w4.alloc (.cells #[.int .u64 (x:Int),.string s] 83)) (w.heap.size + 1) u6 (wrC (0:Int) ((cesL cs).take 0)) from HO4.out.alloc _)
     have HR6:=h_ (show (w4.alloc (.cells #[.int .u64 (x:Int),.string s] 83)).heap[w.heap.size]?=some (.cells #[.int .u64 (px:Int),.string ps] 83 (0,0)) from (Below.heap_alloc _ _ _ (by have:=HZ4.out;omega)).trans HR4.out)
     have HQ6:=h_ (show (w4.alloc (.cells #[.int .u64 (x:Int),.string s] 83)).heap[w4.heap.size]?=some (.cells #[.int .u64 (x:Int),.string s] 83 (0,0)) from heap_alloc_new _ _)
     have HG6:=h_ (show w.heap.size < w4.heap.size∧w4.heap.size < (w4.alloc (.cells #[.int .u64 (x:Int),.string s] 83)).heap.size by rw [World.size_alloc];have:=HZ4.out;omega)
     have hp0:(w4.alloc (.cells #[.int .u64 (x:Int),.string s] 83)).cell? ⟨w.heap.size,0,none⟩=some (.int .u64 (px:Int)):=by rw [cell_of_row _ _ _ _ _ _ HR6.out];rfl
     have hp1:(w4.alloc (.cells #[.int .u64 (x:Int),.string s] 83)).cell? ⟨w.heap.size,1,none⟩=some (.string ps):=by rw [cell_of_row _ _ _ _ _ _ HR6.out];rfl
     have HPC:=h_ (show pc (0:Int) 0 (ceL (px,ps)) (ceL (x,s))=pc (0:Int) 0 (px,ps.data.toList) (x,t) by unfold ceL;rw [HT.out])
     clear HB4 HO4 HR4 HZ4 HCell
     obtain ⟨z,hz⟩:∃ z,z=wrap64 (IntKind.u64.wrap ((x:Int) - px)):=⟨_,rfl⟩
     have hz9:z=wrap64 ((x:Int) - px):=by rw [hz,IntKind.wrap_u64];unfold wrap64;omega
     have HSt9:=h_ (show stepZ px x=zig z by unfold stepZ;rw [hz9])
     have hzr:-9223372036854775808≤z∧z≤9223372036854775807:=by rw [hz9];unfold wrap64;omega
     have HZr:=h_ hzr
     have HWz:=h_ hz.symm
     clear hz9 hzr hz
     go_wp2_with fail
     rw [HWz.out]
     generalize (w4.alloc (.cells #[.int .u64 (x:Int),.string s] 83))=w6 at *
     generalize w4.heap.size=gp at *
     refine (ref_Int z (HZr.out).1 (HZr.out).2 _).mono ?_
     rintro e w7 ⟨yv,rfl,hO7,hb⟩
     have HB7:=h_ (HB6.out.trans (hb.mono HB6.out.size))
     have HO7:=h_ (HO6.out.later hb l_)
     have HR7:=h_ ((hb.block w.heap.size (by have:=HG6.out;omega)).trans HR6.out)
     have HQ7:=h_ ((hb.block gp (by have:=HG6.out;omega)).trans HQ6.out)
     have HG7:=h_ (show w.heap.size < gp∧gp < w7.heap.size by have:=HG6.out;have:=hb.size;omega)
     have hY:=hO7.rd (by have:=encU_le (zig z) (zig_lt z (HZr.out).1 (HZr.out).2);omega)
     have HY7:=h_ hY
     clear hb hO7 hY HB6 HO6 HR6 HQ6 HG6
     go_wp2_with (with_reducible refine wpl_append (w.heap.size + 1) _ _ ?hs HO7.out _ (encU (zig z)) ?hx HY7.out ?hn ?hbase w.heap.size w HB7.out (by omega) ?_)
     case hs=>rfl
     case hx=>rfl
     case hn=>have:=HLen.out;have:=encU_le (zig z) (zig_lt z (HZr.out).1 (HZr.out).2);omega
     case hbase=>have:=HG7.out;omega
     intro v8 w8 hO8 hB8 hg8
     have HB8:=h_ hB8
     have HO8:=h_ hO8
     have HR8:=h_ ((hg8.block w.heap.size (by have:=HG7.out;omega) (fun e=>own_ne HO7.out HR7.out _ e.symm rfl)).trans HR7.out)
     have HQ8:=h_ ((hg8.block gp (by have:=HG7.out;omega) (fun e=>own_ne HO7.out HQ7.out _ e.symm rfl)).trans HQ7.out)
     have HG8:=h_ (show w.heap.size < gp∧gp < w8.heap.size by have:=HG7.out;have:=hg8.size;omega)
     clear hO8 hB8 hg8 HO7 HB7 HR7 HQ7 HG7 HY7
     have HO9:=h_ (show Own w8 (w.heap.size + 1) v8 (wrC (0:Int) ((cesL cs).take (0 + 1))) from by rw [HNx.out (by omega) kl,HLG.out,HCG.out,HPC.out,pc_step h34 (fun h=>h.2 rfl),HSt9.out];exact HO8.out)
     have e0:w8.cell? ⟨gp,0,none⟩=some (.int .u64 (x:Int)):=by rw [cell_of_row _ _ _ _ _ _ HQ8.out];rfl
     have e1:w8.cell? ⟨gp,1,none⟩=some (.string s):=by rw [cell_of_row _ _ _ _ _ _ HQ8.out];rfl
     have f0:w8.frozen? ⟨w.heap.size,0,none⟩=false:=frozen_of_row _ _ _ _ _ HR8.out
     have f1:(w8.setCell ⟨w.heap.size,0,none⟩ (.int .u64 (x:Int))).frozen? ⟨w.heap.size,1,none⟩=false:=frozen_of_row _ _ _ _ _ (block_setCell HR8.out _)
     have c0:w8.cell? ⟨w.heap.size,0,none⟩=some (.int .u64 (px:Int)):=by rw [cell_of_row _ _ _ _ _ _ HR8.out];rfl
     have c1:(w8.setCell ⟨w.heap.size,0,none⟩ (.int .u64 (x:Int))).cell? ⟨w.heap.size,1,none⟩=some (.string ps):=by rw [cell_of_row _ _ _ _ _ _ (block_setCell HR8.out _)];rfl
     have HBe:=h_ (show Below w.heap.size w ((w8.setCell ⟨w.heap.size,0,none⟩ (.int .u64 (x:Int))).setCell ⟨w.heap.size,1,none⟩ (.string s)) from (HB8.out.setCell l_ _).setCell l_ _)
     have HOe:=h_ (show Own ((w8.setCell ⟨w.heap.size,0,none⟩ (.int .u64 (x:Int))).setCell ⟨w.heap.size,1,none⟩ (.string s)) (w.heap.size + 1) v8 (wrC (0:Int) ((cesL cs).take (0 + 1))) from HO9.out.grown9 (grown_setCell (grown_setCell (World.grownBy.refl _ _) _) _) (fun q e9 e8=>own_ne HO9.out HR8.out q e9 (by injection e8)))
     have HRe:=h_ (show ((w8.setCell ⟨w.heap.size,0,none⟩ (.int .u64 (x:Int))).setCell ⟨w.heap.size,1,none⟩ (.string s)).heap[w.heap.size]?=some (.cells #[.int .u64 ((lstB cs (0 + 1)).1:Int),.string (lstB cs (0 + 1)).2] 83 (0,0)) by rw [HLs.out];exact block_setCell (block_setCell HR8.out _) _)
     have HZe:=h_ (show w.heap.size + 1≤((w8.setCell ⟨w.heap.size,0,none⟩ (.int .u64 (x:Int))).setCell ⟨w.heap.size,1,none⟩ (.string s)).heap.size by rw [World.size_setCell,World.size_setCell];have:=HG8.out;omega)
     clear HO9 HO8 HB8 HR8 HQ8 HG8
     go_wp2
     go_roundw
     case rel=>exact ⟨0 + 1,by omega,by go_num,HBe,HOe,HEk,HRe,HZe⟩
     case measure=>simp [intOf];omega
    ·have e0:((k:Int) == 0)=false:=by rw [beq_eq_false_iff_ne];omega
     have HLen:=h_ (wrC_small HC.out HK0.out)
     have HLen:=h_ (show (wrC (0:Int) ((cesL cs).take k)).length≤1000000 by have:=HLen.out;have:=HS.out;omega)
     have HB6:=h_ (show Below w.heap.size w (w4.alloc (.cells #[.int .u64 (x:Int),.string s] 83)) from HB4.out.alloc HB4.out.size _)
     have HO6:=h_ (show Own (w4.alloc (.cells #[.int .u64 (x:Int),.string s] 83)) (w.heap.size + 1) u6 (wrC (0:Int) ((cesL cs).take k)) from HO4.out.alloc _)
     have HR6:=h_ (show (w4.alloc (.cells #[.int .u64 (x:Int),.string s] 83)).heap[w.heap.size]?=some (.cells #[.int .u64 (px:Int),.string ps] 83 (0,0)) from (Below.heap_alloc _ _ _ (by have:=HZ4.out;omega)).trans HR4.out)
     have HQ6:=h_ (show (w4.alloc (.cells #[.int .u64 (x:Int),.string s] 83)).heap[w4.heap.size]?=some (.cells #[.int .u64 (x:Int),.string s] 83 (0,0)) from heap_alloc_new _ _)
     have HG6:=h_ (show w.heap.size < w4.heap.size∧w4.heap.size < (w4.alloc (.cells #[.int .u64 (x:Int),.string s] 83)).heap.size by rw [World.size_alloc];have:=HZ4.out;omega)
     have hp0:(w4.alloc (.cells #[.int .u64 (x:Int),.string s] 83)).cell? ⟨w.heap.size,0,none⟩=some (.int .u64 (px:Int)):=by rw [cell_of_row _ _ _ _ _ _ HR6.out];rfl
     have hp1:(w4.alloc (.cells #[.int .u64 (x:Int),.string s] 83)).cell? ⟨w.heap.size,1,none⟩=some (.string ps):=by rw [cell_of_row _ _ _ _ _ _ HR6.out];rfl
     have HPC:=h_ (show pc (0:Int) k (ceL (px,ps)) (ceL (x,s))=pc (0:Int) k (px,ps.data.toList) (x,t) by unfold ceL;rw [HT.out])
     clear HB4 HO4 HR4 HZ4 HCell
     obtain ⟨z,hz⟩:∃ z,z=wrap64 (IntKind.u64.wrap ((x:Int) - px)):=⟨_,rfl⟩
     have hz9:z=wrap64 ((x:Int) - px):=by rw [hz,IntKind.wrap_u64];unfold wrap64;omega
     have HSt9:=h_ (show stepZ px x=zig z by unfold stepZ;rw [hz9])
     have hzr:-9223372036854775808≤z∧z≤9223372036854775807:=by rw [hz9];unfold wrap64;omega
     have HZr:=h_ hzr
     have HWz:=h_ hz.symm
     clear hz9 hzr hz
     go_wp2_with fail
     rw [HWz.out]
     generalize (w4.alloc (.cells #[.int .u64 (x:Int),.string s] 83))=w6 at *
     generalize w4.heap.size=gp at *
     refine (ref_Int z (HZr.out).1 (HZr.out).2 _).mono ?_
     rintro e w7 ⟨yv,rfl,hO7,hb⟩
     have HB7:=h_ (HB6.out.trans (hb.mono HB6.out.size))
     have HO7:=h_ (HO6.out.later hb l_)
     have HR7:=h_ ((hb.block w.heap.size (by have:=HG6.out;omega)).trans HR6.out)
     have HQ7:=h_ ((hb.block gp (by have:=HG6.out;omega)).trans HQ6.out)
     have HG7:=h_ (show w.heap.size < gp∧gp < w7.heap.size by have:=HG6.out;have:=hb.size;omega)
     have hY:=hO7.rd (by have:=encU_le (zig z) (zig_lt z (HZr.out).1 (HZr.out).2);omega)
     have HY7:=h_ hY
     clear hb hO7 hY HB6 HO6 HR6 HQ6 HG6
     go_wp2_with (with_reducible refine wpl_append (w.heap.size + 1) _ _ ?hs HO7.out _ (encU (zig z)) ?hx HY7.out ?hn ?hbase w.heap.size w HB7.out (by omega) ?_)
     case hs=>rfl
     case hx=>rfl
     case hn=>have:=HLen.out;have:=encU_le (zig z) (zig_lt z (HZr.out).1 (HZr.out).2);omega
     case hbase=>have:=HG7.out;omega
     intro v8 w8 hO8 hB8 hg8
     have HB8:=h_ hB8
     have HO8:=h_ hO8
     have HR8:=h_ ((hg8.block w.heap.size (by have:=HG7.out;omega) (fun e=>own_ne HO7.out HR7.out _ e.symm rfl)).trans HR7.out)
     have HQ8:=h_ ((hg8.block gp (by have:=HG7.out;omega) (fun e=>own_ne HO7.out HQ7.out _ e.symm rfl)).trans HQ7.out)
     have HG8:=h_ (show w.heap.size < gp∧gp < w8.heap.size by have:=HG7.out;have:=hg8.size;omega)
     clear hO8 hB8 hg8 HO7 HB7 HR7 HQ7 HG7 HY7
     have HO9:=h_ (show Own w8 (w.heap.size + 1) v8 (wrC (0:Int) ((cesL cs).take (k + 1))) from by rw [HNx.out (by omega) kl,HLG.out,HCG.out,HPC.out,pc_step h34 (fun h=>h.2 rfl),HSt9.out];exact HO8.out)
     have e0:w8.cell? ⟨gp,0,none⟩=some (.int .u64 (x:Int)):=by rw [cell_of_row _ _ _ _ _ _ HQ8.out];rfl
     have e1:w8.cell? ⟨gp,1,none⟩=some (.string s):=by rw [cell_of_row _ _ _ _ _ _ HQ8.out];rfl
     have f0:w8.frozen? ⟨w.heap.size,0,none⟩=false:=frozen_of_row _ _ _ _ _ HR8.out
     have f1:(w8.setCell ⟨w.heap.size,0,none⟩ (.int .u64 (x:Int))).frozen? ⟨w.heap.size,1,none⟩=false:=frozen_of_row _ _ _ _ _ (block_setCell HR8.out _)
     have c0:w8.cell? ⟨w.heap.size,0,none⟩=some (.int .u64 (px:Int)):=by rw [cell_of_row _ _ _ _ _ _ HR8.out];rfl
     have c1:(w8.setCell ⟨w.heap.size,0,none⟩ (.int .u64 (x:Int))).cell? ⟨w.heap.size,1,none⟩=some (.string ps):=by rw [cell_of_row _ _ _ _ _ _ (block_setCell HR8.out _)];rfl
     have HBe:=h_ (show Below w.heap.size w ((w8.setCell ⟨w.heap.size,0,none⟩ (.int .u64 (x:Int))).setCell ⟨w.heap.size,1,none⟩ (.string s)) from (HB8.out.setCell l_ _).setCell l_ _)
     have HOe:=h_ (show Own ((w8.setCell ⟨w.heap.size,0,none⟩ (.int .u64 (x:Int))).setCell ⟨w.heap.size,1,none⟩ (.string s)) (w.heap.size + 1) v8 (wrC (0:Int) ((cesL cs).take (k + 1))) from HO9.out.grown9 (grown_setCell (grown_setCell (World.grownBy.refl _ _) _) _) (fun q e9 e8=>own_ne HO9.out HR8.out q e9 (by injection e8)))
     have HRe:=h_ (show ((w8.setCell ⟨w.heap.size,0,none⟩ (.int .u64 (x:Int))).setCell ⟨w.heap.size,1,none⟩ (.string s)).heap[w.heap.size]?=some (.cells #[.int .u64 ((lstB cs (k + 1)).1:Int),.string (lstB cs (k + 1)).2] 83 (0,0)) by rw [HLs.out];exact block_setCell (block_setCell HR8.out _) _)
     have HZe:=h_ (show w.heap.size + 1≤((w8.setCell ⟨w.heap.size,0,none⟩ (.int .u64 (x:Int))).setCell ⟨w.heap.size,1,none⟩ (.string s)).heap.size by rw [World.size_setCell,World.size_setCell];have:=HG8.out;omega)
     clear HO9 HO8 HB8 HR8 HQ8 HG8
     go_wp2
     go_roundw
     case rel=>exact ⟨k + 1,by omega,by go_num,HBe,HOe,HEk,HRe,HZe⟩
     case measure=>simp [intOf];omega
   ·have hyb:((y:Int) != 0)=true:=by rw [bne_iff_ne];omega
    have HF:=h_ (show wrE (0:Int) (cesL cs)=y from by rw [HE.out,HA1.out (by rw [← HT.out,← HY.out];exact hy0)];rw [← HT.out,← HY.out])
    clear HA1 HA2 hc0 hc1
    go_wp2
    go_ret2
    exact ⟨_,by rw [HF.out];rfl,by rw [HF.out,if_neg hy0];exact own_nil _ _,HB4.out⟩
  ·obtain rfl:k=n:=by omega
   have hka:(cesL cs).take k=cesL cs:=List.take_of_length_le (by rw [cesL_length,← HN.out];exact l_)
   have HF:=h_ (show wrE (0:Int) (cesL cs)=0 from by rw [HE.out,← hka];exact HK0.out)
   have HO2:=h_ (show Own wr w.heap.size u6 (wrC (0:Int) (cesL cs)) by have:=HO.out;rw [hka] at this;exact this.base (by omega))
   clear hka hlt
   go_wp2
   go_ret2
   exact ⟨_,by rw [HF.out];rfl,by rw [HF.out,if_pos rfl];exact HO2.out,HB.out⟩
set_option maxHeartbeats 16000000 in
theorem ref_Write09b (v:Value) (kind:Int) (cs:List CellB) (w:World) (hv:RdE w v cs) (hC:CES cs) (hk:0≤kind∧kind≤5) (h2:kind≠2) (h3:kind≠3) (h4:kind≠4) (h0:kind≠0) (hs:10 * cs.length + sumT (cesL cs)≤1000000) :
  Calls Tryz.prog 151 #[.int .i64 kind,v] w (WrK w kind cs):=by
 have q2:(kind == 2)=false:=by rw [beq_eq_false_iff_ne];omega
 have q3:(kind == 3)=false:=by rw [beq_eq_false_iff_ne];omega
 have q4:(kind == 4)=false:=by rw [beq_eq_false_iff_ne];omega
 have q0:(kind != 0)=true:=by rw [bne_iff_ne];exact h0
 have hlen:=hv.len
 have hsm:=hv.small
 obtain ⟨n,hn⟩:∃ n,n=cs.length:=⟨_,rfl⟩
 rw [← hn] at hlen hsm
 have HN:=h_ hn
 have HV:=h_ hv
 have HC:=h_ hC
 have HS:=h_ hs
 have d1:decide (kind < 0)=false:=decide_eq_false (by omega)
 have d2:decide (kind > 5)=false:=decide_eq_false (by omega)
 have HE:=h_ (show wrE kind (cesL cs)=errK kind (cesL cs) by unfold wrE;rw [if_neg (by omega)])
 have HK:=h_ hk
 clear hv hC hs hn hk
 have hB0:Below w.heap.size w (w.alloc (.cells #[.int .u64 0,.string ⟨#[]⟩] 83)):=(Below.refl _ _).alloc l_ _
 have HB0:=h_ hB0
 have hrow0:(w.alloc (.cells #[.int .u64 0,.string ⟨#[]⟩] 83)).heap[w.heap.size]?=some (.cells #[.int .u64 0,.string ⟨#[]⟩] 83 (0,0)):=heap_alloc_new w _
 have HR0:=h_ hrow0
 have hz0:w.heap.size + 1≤(w.alloc (.cells #[.int .u64 0,.string ⟨#[]⟩] 83)).heap.size:=by rw [World.size_alloc];omega
 have HZ0:=h_ hz0
 clear hB0 hrow0 hz0
 go_enter Tryz.func151,Tryz.ntmps151
 go_wp2
 go_loopw [6,8] (fun a i wr=>∃ k:Nat,k≤n∧i=.int .i64 k∧Hid (Below w.heap.size w wr)∧Hid (Own wr (w.heap.size + 1) a (wrC kind ((cesL cs).take k)))∧Hid (errK kind ((cesL cs).take k)=0)∧Hid (wr.heap[w.heap.size]?=some (.cells #[.int .u64 ((lstB cs k).1:Int),.string (lstB cs k).2] 83 (0,0)))∧Hid (w.heap.size + 1≤wr.heap.size)) (fun _ i _=>n - (intOf i).toNat)
 case atStart=>exact ⟨0,by omega,rfl,HB0,h_ (by rw [List.take_zero,show wrC kind []=[] from by unfold wrC;split;exact packB_nil;rfl];exact own_nil _ _),h_ rfl,HR0,HZ0⟩
 case round =>
  clear HB0 HR0 HZ0
  obtain ⟨k,hk,rfl,HB,HO,HK0,HR,HZ⟩:=hrel
  by_cases hlt:k < n
  ·have kl:k < cs.length:=by rw [← HN.out];exact hlt
   have hr:=HV.out.later HB.out l_
   obtain ⟨b,o,hidx,hcell,hblk⟩:=hr.get kl
   obtain ⟨hc0,hc1⟩:=hcell _ hr
   obtain ⟨ha1,ha2⟩:=errK_at kl HK0.out
   have HA1:=h_ ha1
   have HA2:=h_ ha2
   obtain ⟨g1,g2⟩:=CES.get HC.out kl
   have HNx:=h_ (@wrC_next kind)
   have hcl:=cesL_take cs k kl
   have HCL:=h_ hcl
   have HLs:=h_ (show lstB cs (k + 1)=cs.getD k default from by unfold lstB;rw [if_neg (by omega),Nat.add_sub_cancel])
   rcases hcg:cs.getD k default with ⟨x,s⟩
   rw [hcg] at HLs
   have HCell:=h_ hcell
   rw [hcg] at hc0 hc1 HA1 HA2 g1 g2 HCL HCell
   have HCG:=h_ hcg
   dsimp only at hc0 hc1 g1 g2
   have hS:=rdS_of g2
   obtain ⟨t,ht⟩:∃ t,t=s.data.toList:=⟨_,rfl⟩
   have HT:=h_ ht
   rw [← ht] at hS
   have HSt:=h_ hS
   rcases hlg:lstB cs k with ⟨px,ps⟩
   rw [hlg] at HR
   have HLG:=h_ hlg
   have CK:=h_ (fun wz=>ref_Check kind x s t wz HSt.out (by have:=HK.out;omega) g1)
   obtain ⟨y,hy⟩:∃ y,y=checkC kind x t:=⟨_,rfl⟩
   have HY:=h_ hy
   rw [← hy] at CK
   clear hr hcell ha1 ha2 hcl hcg hS ht hlg g2 hy
   go_wp2_with fail
   refine (CK.out _).mono ?_
   rintro e w4 ⟨rfl,hb⟩
   have hz4:wr.heap.size≤w4.heap.size:=hb.size
   have HB4:=h_ (HB.out.trans (hb.mono HB.out.size))
   have HO4:=h_ (HO.out.later hb l_)
   have HR4:=h_ ((hb.block w.heap.size (by have:=HZ.out;omega)).trans HR.out)
   have HZ4:=h_ (show w.heap.size + 1≤w4.heap.size by have:=HZ.out;omega)
   obtain ⟨hc0,hc1⟩:=HCell.out w4 (HV.out.later HB4.out l_)
   try dsimp only at hc0 hc1
   clear hb hz4 CK HB HO HR HZ
   by_cases hy0:y=0
   ·have hyb:((y:Int) != 0)=false:=by rw [bne_eq_false_iff_eq];omega
    have HEk:=h_ (HA2.out (by rw [← HT.out,← HY.out];exact hy0))
    have hfit:Fit kind (x,t):=⟨by rw [← HY.out];exact hy0,g1⟩
    have HF:=h_ hfit
    clear hfit HA1 HA2
    have h34:¬ (kind=3∨kind=4):=by omega
    have HKZ:=h_ h0
    by_cases hk0:k=0
    ·subst hk0
     rw [show ((0:Nat):Int)=0 from rfl] at hidx
     have HLen:=h_ (wrC_small HC.out HK0.out)
     have HLen:=h_ (show (wrC kind ((cesL cs).take 0)).length≤1000000 by have:=HLen.out;have:=HS.out;omega)
     have HB6:=h_ (show Below w.heap.size w (w4.alloc (.cells #[.int .u64 (x:Int),.string s] 83)) from HB4.out.alloc HB4.out.size _)
     have HO6:=h_ (show Own (w4.alloc (.cells #[.int .u64 (x:Int),.string s] 83)) (w.heap.size + 1) u6 (wrC kind ((cesL cs).take 0)) from HO4.out.alloc _)
     have HR6:=h_ (show (w4.alloc (.cells #[.int .u64 (x:Int),.string s] 83)).heap[w.heap.size]?=some (.cells #[.int .u64 (px:Int),.string ps] 83 (0,0)) from (Below.heap_alloc _ _ _ (by have:=HZ4.out;omega)).trans HR4.out)
     have HQ6:=h_ (show (w4.alloc (.cells #[.int .u64 (x:Int),.string s] 83)).heap[w4.heap.size]?=some (.cells #[.int .u64 (x:Int),.string s] 83 (0,0)) from heap_alloc_new _ _)
     have HG6:=h_ (show w.heap.size < w4.heap.size∧w4.heap.size < (w4.alloc (.cells #[.int .u64 (x:Int),.string s] 83)).heap.size by rw [World.size_alloc];have:=HZ4.out;omega)
     have hp0:(w4.alloc (.cells #[.int .u64 (x:Int),.string s] 83)).cell? ⟨w.heap.size,0,none⟩=some (.int .u64 (px:Int)):=by rw [cell_of_row _ _ _ _ _ _ HR6.out];rfl
     have hp1:(w4.alloc (.cells #[.int .u64 (x:Int),.string s] 83)).cell? ⟨w.heap.size,1,none⟩=some (.string ps):=by rw [cell_of_row _ _ _ _ _ _ HR6.out];rfl
     have HPC:=h_ (show pc kind 0 (ceL (px,ps)) (ceL (x,s))=pc kind 0 (px,ps.data.toList) (x,t) by unfold ceL;rw [HT.out])
     clear HB4 HO4 HR4 HZ4 HCell
     go_wp2_with fail
     generalize (w4.alloc (.cells #[.int .u64 (x:Int),.string s] 83))=w6 at *
     generalize w4.heap.size=gp at *
     refine (ref_Uint (x:Int) (by omega) (by omega) _).mono ?_
     rintro e w7 ⟨yv,rfl,hO7,hb⟩
     rw [Int.toNat_natCast] at hO7
     have HB7:=h_ (HB6.out.trans (hb.mono HB6.out.size))
     have HO7:=h_ (HO6.out.later hb l_)
     have HR7:=h_ ((hb.block w.heap.size (by have:=HG6.out;omega)).trans HR6.out)
     have HQ7:=h_ ((hb.block gp (by have:=HG6.out;omega)).trans HQ6.out)
     have HG7:=h_ (show w.heap.size < gp∧gp < w7.heap.size by have:=HG6.out;have:=hb.size;omega)
     have hY:=hO7.rd (by have:=encU_le x (by omega);omega)
     have HY7:=h_ hY
     clear hb hO7 hY HB6 HO6 HR6 HQ6 HG6
     go_wp2_with (with_reducible refine wpl_append (w.heap.size + 1) _ _ ?hs HO7.out _ (encU x) ?hx HY7.out ?hn ?hbase w.heap.size w HB7.out (by omega) ?_)
     case hs=>rfl
     case hx=>rfl
     case hn=>have:=HLen.out;have:=encU_le x (by omega);omega
     case hbase=>have:=HG7.out;omega
     intro v8 w8 hO8 hB8 hg8
     have HB8:=h_ hB8
     have HO8:=h_ hO8
     have HR8:=h_ ((hg8.block w.heap.size (by have:=HG7.out;omega) (fun e=>own_ne HO7.out HR7.out _ e.symm rfl)).trans HR7.out)
     have HQ8:=h_ ((hg8.block gp (by have:=HG7.out;omega) (fun e=>own_ne HO7.out HQ7.out _ e.symm rfl)).trans HQ7.out)
     have HG8:=h_ (show w.heap.size < gp∧gp < w8.heap.size by have:=HG7.out;have:=hg8.size;omega)
     clear hO8 hB8 hg8 HO7 HB7 HR7 HQ7 HG7 HY7
     have HO9:=h_ (show Own w8 (w.heap.size + 1) v8 (wrC kind ((cesL cs).take (0 + 1))) from by rw [HNx.out (by omega) kl,HLG.out,HCG.out,HPC.out,pc_first h34 HKZ.out];exact HO8.out)
     have e0:w8.cell? ⟨gp,0,none⟩=some (.int .u64 (x:Int)):=by rw [cell_of_row _ _ _ _ _ _ HQ8.out];rfl
     have e1:w8.cell? ⟨gp,1,none⟩=some (.string s):=by rw [cell_of_row _ _ _ _ _ _ HQ8.out];rfl
     have f0:w8.frozen? ⟨w.heap.size,0,none⟩=false:=frozen_of_row _ _ _ _ _ HR8.out
     have f1:(w8.setCell ⟨w.heap.size,0,none⟩ (.int .u64 (x:Int))).frozen? ⟨w.heap.size,1,none⟩=false:=frozen_of_row _ _ _ _ _ (block_setCell HR8.out _)
     have c0:w8.cell? ⟨w.heap.size,0,none⟩=some (.int .u64 (px:Int)):=by rw [cell_of_row _ _ _ _ _ _ HR8.out];rfl
     have c1:(w8.setCell ⟨w.heap.size,0,none⟩ (.int .u64 (x:Int))).cell? ⟨w.heap.size,1,none⟩=some (.string ps):=by rw [cell_of_row _ _ _ _ _ _ (block_setCell HR8.out _)];rfl
     have HBe:=h_ (show Below w.heap.size w ((w8.setCell ⟨w.heap.size,0,none⟩ (.int .u64 (x:Int))).setCell ⟨w.heap.size,1,none⟩ (.string s)) from (HB8.out.setCell l_ _).setCell l_ _)
     have HOe:=h_ (show Own ((w8.setCell ⟨w.heap.size,0,none⟩ (.int .u64 (x:Int))).setCell ⟨w.heap.size,1,none⟩ (.string s)) (w.heap.size + 1) v8 (wrC kind ((cesL cs).take (0 + 1))) from HO9.out.grown9 (grown_setCell (grown_setCell (World.grownBy.refl _ _) _) _) (fun q e9 e8=>own_ne HO9.out HR8.out q e9 (by injection e8)))
     have HRe:=h_ (show ((w8.setCell ⟨w.heap.size,0,none⟩ (.int .u64 (x:Int))).setCell ⟨w.heap.size,1,none⟩ (.string s)).heap[w.heap.size]?=some (.cells #[.int .u64 ((lstB cs (0 + 1)).1:Int),.string (lstB cs (0 + 1)).2] 83 (0,0)) by rw [HLs.out];exact block_setCell (block_setCell HR8.out _) _)
     have HZe:=h_ (show w.heap.size + 1≤((w8.setCell ⟨w.heap.size,0,none⟩ (.int .u64 (x:Int))).setCell ⟨w.heap.size,1,none⟩ (.string s)).heap.size by rw [World.size_setCell,World.size_setCell];have:=HG8.out;omega)
     clear HO9 HO8 HB8 HR8 HQ8 HG8
     go_wp2
     go_roundw
     case rel=>exact ⟨0 + 1,by omega,by go_num,HBe,HOe,HEk,HRe,HZe⟩
     case measure=>simp [intOf];omega
    ·have e0:((k:Int) == 0)=false:=by rw [beq_eq_false_iff_ne];omega
     have HKK:=h_ hk0
     have HLen:=h_ (wrC_small HC.out HK0.out)
     have HLen:=h_ (show (wrC kind ((cesL cs).take k)).length≤1000000 by have:=HLen.out;have:=HS.out;omega)
     have HB6:=h_ (show Below w.heap.size w (w4.alloc (.cells #[.int .u64 (x:Int),.string s] 83)) from HB4.out.alloc HB4.out.size _)
     have HO6:=h_ (show Own (w4.alloc (.cells #[.int .u64 (x:Int),.string s] 83)) (w.heap.size + 1) u6 (wrC kind ((cesL cs).take k)) from HO4.out.alloc _)
     have HR6:=h_ (show (w4.alloc (.cells #[.int .u64 (x:Int),.string s] 83)).heap[w.heap.size]?=some (.cells #[.int .u64 (px:Int),.string ps] 83 (0,0)) from (Below.heap_alloc _ _ _ (by have:=HZ4.out;omega)).trans HR4.out)
     have HQ6:=h_ (show (w4.alloc (.cells #[.int .u64 (x:Int),.string s] 83)).heap[w4.heap.size]?=some (.cells #[.int .u64 (x:Int),.string s] 83 (0,0)) from heap_alloc_new _ _)
     have HG6:=h_ (show w.heap.size < w4.heap.size∧w4.heap.size < (w4.alloc (.cells #[.int .u64 (x:Int),.string s] 83)).heap.size by rw [World.size_alloc];have:=HZ4.out;omega)
     have hp0:(w4.alloc (.cells #[.int .u64 (x:Int),.string s] 83)).cell? ⟨w.heap.size,0,none⟩=some (.int .u64 (px:Int)):=by rw [cell_of_row _ _ _ _ _ _ HR6.out];rfl
     have hp1:(w4.alloc (.cells #[.int .u64 (x:Int),.string s] 83)).cell? ⟨w.heap.size,1,none⟩=some (.string ps):=by rw [cell_of_row _ _ _ _ _ _ HR6.out];rfl
     have HPC:=h_ (show pc kind k (ceL (px,ps)) (ceL (x,s))=pc kind k (px,ps.data.toList) (x,t) by unfold ceL;rw [HT.out])
     clear HB4 HO4 HR4 HZ4 HCell
     obtain ⟨z,hz⟩:∃ z,z=wrap64 (IntKind.u64.wrap ((x:Int) - px)):=⟨_,rfl⟩
     have hz9:z=wrap64 ((x:Int) - px):=by rw [hz,IntKind.wrap_u64];unfold wrap64;omega
     have HSt9:=h_ (show stepZ px x=zig z by unfold stepZ;rw [hz9])
     have hzr:-9223372036854775808≤z∧z≤9223372036854775807:=by rw [hz9];unfold wrap64;omega
     have HZr:=h_ hzr
     have HWz:=h_ hz.symm
     clear hz9 hzr hz
     go_wp2_with fail
     rw [HWz.out]
     generalize (w4.alloc (.cells #[.int .u64 (x:Int),.string s] 83))=w6 at *
     generalize w4.heap.size=gp at *
     refine (ref_Int z (HZr.out).1 (HZr.out).2 _).mono ?_
     rintro e w7 ⟨yv,rfl,hO7,hb⟩
     have HB7:=h_ (HB6.out.trans (hb.mono HB6.out.size))
     have HO7:=h_ (HO6.out.later hb l_)
     have HR7:=h_ ((hb.block w.heap.size (by have:=HG6.out;omega)).trans HR6.out)
     have HQ7:=h_ ((hb.block gp (by have:=HG6.out;omega)).trans HQ6.out)
     have HG7:=h_ (show w.heap.size < gp∧gp < w7.heap.size by have:=HG6.out;have:=hb.size;omega)
     have hY:=hO7.rd (by have:=encU_le (zig z) (zig_lt z (HZr.out).1 (HZr.out).2);omega)
     have HY7:=h_ hY
     clear hb hO7 hY HB6 HO6 HR6 HQ6 HG6
     go_wp2_with (with_reducible refine wpl_append (w.heap.size + 1) _ _ ?hs HO7.out _ (encU (zig z)) ?hx HY7.out ?hn ?hbase w.heap.size w HB7.out (by omega) ?_)
     case hs=>rfl
     case hx=>rfl
     case hn=>have:=HLen.out;have:=encU_le (zig z) (zig_lt z (HZr.out).1 (HZr.out).2);omega
     case hbase=>have:=HG7.out;omega
     intro v8 w8 hO8 hB8 hg8
     have HB8:=h_ hB8
     have HO8:=h_ hO8
     have HR8:=h_ ((hg8.block w.heap.size (by have:=HG7.out;omega) (fun e=>own_ne HO7.out HR7.out _ e.symm rfl)).trans HR7.out)
     have HQ8:=h_ ((hg8.block gp (by have:=HG7.out;omega) (fun e=>own_ne HO7.out HQ7.out _ e.symm rfl)).trans HQ7.out)
     have HG8:=h_ (show w.heap.size < gp∧gp < w8.heap.size by have:=HG7.out;have:=hg8.size;omega)
     clear hO8 hB8 hg8 HO7 HB7 HR7 HQ7 HG7 HY7
     have HO9:=h_ (show Own w8 (w.heap.size + 1) v8 (wrC kind ((cesL cs).take (k + 1))) from by rw [HNx.out (by omega) kl,HLG.out,HCG.out,HPC.out,pc_step h34 (fun h=>HKK.out h.1),HSt9.out];exact HO8.out)
     have e0:w8.cell? ⟨gp,0,none⟩=some (.int .u64 (x:Int)):=by rw [cell_of_row _ _ _ _ _ _ HQ8.out];rfl
     have e1:w8.cell? ⟨gp,1,none⟩=some (.string s):=by rw [cell_of_row _ _ _ _ _ _ HQ8.out];rfl
     have f0:w8.frozen? ⟨w.heap.size,0,none⟩=false:=frozen_of_row _ _ _ _ _ HR8.out
     have f1:(w8.setCell ⟨w.heap.size,0,none⟩ (.int .u64 (x:Int))).frozen? ⟨w.heap.size,1,none⟩=false:=frozen_of_row _ _ _ _ _ (block_setCell HR8.out _)
     have c0:w8.cell? ⟨w.heap.size,0,none⟩=some (.int .u64 (px:Int)):=by rw [cell_of_row _ _ _ _ _ _ HR8.out];rfl
     have c1:(w8.setCell ⟨w.heap.size,0,none⟩ (.int .u64 (x:Int))).cell? ⟨w.heap.size,1,none⟩=some (.string ps):=by rw [cell_of_row _ _ _ _ _ _ (block_setCell HR8.out _)];rfl
     have HBe:=h_ (show Below w.heap.size w ((w8.setCell ⟨w.heap.size,0,none⟩ (.int .u64 (x:Int))).setCell ⟨w.heap.size,1,none⟩ (.string s)) from (HB8.out.setCell l_ _).setCell l_ _)
     have HOe:=h_ (show Own ((w8.setCell ⟨w.heap.size,0,none⟩ (.int .u64 (x:Int))).setCell ⟨w.heap.size,1,none⟩ (.string s)) (w.heap.size + 1) v8 (wrC kind ((cesL cs).take (k + 1))) from HO9.out.grown9 (grown_setCell (grown_setCell (World.grownBy.refl _ _) _) _) (fun q e9 e8=>own_ne HO9.out HR8.out q e9 (by injection e8)))
     have HRe:=h_ (show ((w8.setCell ⟨w.heap.size,0,none⟩ (.int .u64 (x:Int))).setCell ⟨w.heap.size,1,none⟩ (.string s)).heap[w.heap.size]?=some (.cells #[.int .u64 ((lstB cs (k + 1)).1:Int),.string (lstB cs (k + 1)).2] 83 (0,0)) by rw [HLs.out];exact block_setCell (block_setCell HR8.out _) _)
     have HZe:=h_ (show w.heap.size + 1≤((w8.setCell ⟨w.heap.size,0,none⟩ (.int .u64 (x:Int))).setCell ⟨w.heap.size,1,none⟩ (.string s)).heap.size by rw [World.size_setCell,World.size_setCell];have:=HG8.out;omega)
     clear HO9 HO8 HB8 HR8 HQ8 HG8
     go_wp2
     go_roundw
     case rel=>exact ⟨k + 1,by omega,by go_num,HBe,HOe,HEk,HRe,HZe⟩
     case measure=>simp [intOf];omega
   ·have hyb:((y:Int) != 0)=true:=by rw [bne_iff_ne];omega
    have HF:=h_ (show wrE kind (cesL cs)=y from by rw [HE.out,HA1.out (by rw [← HT.out,← HY.out];exact hy0)];rw [← HT.out,← HY.out])
    clear HA1 HA2 hc0 hc1
    go_wp2
    go_ret2
    exact ⟨_,by rw [HF.out];rfl,by rw [HF.out,if_neg hy0];exact own_nil _ _,HB4.out⟩
  ·obtain rfl:k=n:=by omega
   have hka:(cesL cs).take k=cesL cs:=List.take_of_length_le (by rw [cesL_length,← HN.out];exact l_)
   have HF:=h_ (show wrE kind (cesL cs)=0 from by rw [HE.out,← hka];exact HK0.out)
   have HO2:=h_ (show Own wr w.heap.size u6 (wrC kind (cesL cs)) by have:=HO.out;rw [hka] at this;exact this.base (by omega))
   clear hka hlt
   go_wp2
   go_ret2
   exact ⟨_,by rw [HF.out];rfl,by rw [HF.out,if_pos rfl];exact HO2.out,HB.out⟩
set_option maxHeartbeats 16000000 in
theorem ref_Write09t (v:Value) (cs:List CellB) (w:World) (hv:RdE w v cs) (hC:CES cs) (hk:0≤(3:Int)∧(3:Int)≤5) (hs:10 * cs.length + sumT (cesL cs)≤1000000) :
  Calls Tryz.prog 151 #[.int .i64 3,v] w (WrK w (3:Int) cs):=by
 have hlen:=hv.len
 have hsm:=hv.small
 obtain ⟨n,hn⟩:∃ n,n=cs.length:=⟨_,rfl⟩
 rw [← hn] at hlen hsm
 have HN:=h_ hn
 have HV:=h_ hv
 have HC:=h_ hC
 have HS:=h_ hs
 have d1:decide ((3:Int) < 0)=false:=decide_eq_false (by omega)
 have d2:decide ((3:Int) > 5)=false:=decide_eq_false (by omega)
 have HE:=h_ (show wrE (3:Int) (cesL cs)=errK (3:Int) (cesL cs) by unfold wrE;rw [if_neg (by omega)])
 have HK:=h_ hk
 clear hv hC hs hn hk
 have hB0:Below w.heap.size w (w.alloc (.cells #[.int .u64 0,.string ⟨#[]⟩] 83)):=(Below.refl _ _).alloc l_ _
 have HB0:=h_ hB0
 have hrow0:(w.alloc (.cells #[.int .u64 0,.string ⟨#[]⟩] 83)).heap[w.heap.size]?=some (.cells #[.int .u64 0,.string ⟨#[]⟩] 83 (0,0)):=heap_alloc_new w _
 have HR0:=h_ hrow0
 have hz0:w.heap.size + 1≤(w.alloc (.cells #[.int .u64 0,.string ⟨#[]⟩] 83)).heap.size:=by rw [World.size_alloc];omega
 have HZ0:=h_ hz0
 clear hB0 hrow0 hz0
 go_enter Tryz.func151,Tryz.ntmps151
 go_wp2
 go_loopw [6,8] (fun a i wr=>∃ k:Nat,k≤n∧i=.int .i64 k∧Hid (Below w.heap.size w wr)∧Hid (Own wr (w.heap.size + 1) a (wrC (3:Int) ((cesL cs).take k)))∧Hid (errK (3:Int) ((cesL cs).take k)=0)∧Hid (wr.heap[w.heap.size]?=some (.cells #[.int .u64 ((lstB cs k).1:Int),.string (lstB cs k).2] 83 (0,0)))∧Hid (w.heap.size + 1≤wr.heap.size)) (fun _ i _=>n - (intOf i).toNat)
 case atStart=>exact ⟨0,by omega,rfl,HB0,h_ (by rw [List.take_zero,show wrC (3:Int) []=[] from by unfold wrC;split;exact packB_nil;rfl];exact own_nil _ _),h_ rfl,HR0,HZ0⟩
 case round =>
  clear HB0 HR0 HZ0
  obtain ⟨k,hk,rfl,HB,HO,HK0,HR,HZ⟩:=hrel
  by_cases hlt:k < n
  ·have kl:k < cs.length:=by rw [← HN.out];exact hlt
   have hr:=HV.out.later HB.out l_
   obtain ⟨b,o,hidx,hcell,hblk⟩:=hr.get kl
   obtain ⟨hc0,hc1⟩:=hcell _ hr
   obtain ⟨ha1,ha2⟩:=errK_at kl HK0.out
   have HA1:=h_ ha1
   have HA2:=h_ ha2
   obtain ⟨g1,g2⟩:=CES.get HC.out kl
   have HNx:=h_ (@wrC_next (3:Int))
   have hcl:=cesL_take cs k kl
   have HCL:=h_ hcl
   have HLs:=h_ (show lstB cs (k + 1)=cs.getD k default from by unfold lstB;rw [if_neg (by omega),Nat.add_sub_cancel])
   rcases hcg:cs.getD k default with ⟨x,s⟩
   rw [hcg] at HLs
   have HCell:=h_ hcell
   rw [hcg] at hc0 hc1 HA1 HA2 g1 g2 HCL HCell
   have HCG:=h_ hcg
   dsimp only at hc0 hc1 g1 g2
   have hS:=rdS_of g2
   obtain ⟨t,ht⟩:∃ t,t=s.data.toList:=⟨_,rfl⟩
   have HT:=h_ ht
   rw [← ht] at hS
   have HSt:=h_ hS
   rcases hlg:lstB cs k with ⟨px,ps⟩
   rw [hlg] at HR
   have HLG:=h_ hlg
   have CK:=h_ (fun wz=>ref_Check (3:Int) x s t wz HSt.out (by have:=HK.out;omega) g1)
   obtain ⟨y,hy⟩:∃ y,y=checkC (3:Int) x t:=⟨_,rfl⟩
   have HY:=h_ hy
   rw [← hy] at CK
   clear hr hcell ha1 ha2 hcl hcg hS ht hlg g2 hy
   go_wp2_with fail
   refine (CK.out _).mono ?_
   rintro e w4 ⟨rfl,hb⟩
   have hz4:wr.heap.size≤w4.heap.size:=hb.size
   have HB4:=h_ (HB.out.trans (hb.mono HB.out.size))
   have HO4:=h_ (HO.out.later hb l_)
   have HR4:=h_ ((hb.block w.heap.size (by have:=HZ.out;omega)).trans HR.out)
   have HZ4:=h_ (show w.heap.size + 1≤w4.heap.size by have:=HZ.out;omega)
   obtain ⟨hc0,hc1⟩:=HCell.out w4 (HV.out.later HB4.out l_)
   try dsimp only at hc0 hc1
   clear hb hz4 CK HB HO HR HZ
   by_cases hy0:y=0
   ·have hyb:((y:Int) != 0)=false:=by rw [bne_eq_false_iff_eq];omega
    have HEk:=h_ (HA2.out (by rw [← HT.out,← HY.out];exact hy0))
    have hfit:Fit (3:Int) (x,t):=⟨by rw [← HY.out];exact hy0,g1⟩
    have HF:=h_ hfit
    clear hfit HA1 HA2
    have HLen:=h_ (wrC_small HC.out HK0.out)
    have HLen:=h_ (show (wrC (3:Int) ((cesL cs).take k)).length≤1000000 by have:=HLen.out;have:=HS.out;omega)
    have HB6:=h_ (show Below w.heap.size w (w4.alloc (.cells #[.int .u64 (x:Int),.string s] 83)) from HB4.out.alloc HB4.out.size _)
    have HO6:=h_ (show Own (w4.alloc (.cells #[.int .u64 (x:Int),.string s] 83)) (w.heap.size + 1) u6 (wrC (3:Int) ((cesL cs).take k)) from HO4.out.alloc _)
    have HR6:=h_ (show (w4.alloc (.cells #[.int .u64 (x:Int),.string s] 83)).heap[w.heap.size]?=some (.cells #[.int .u64 (px:Int),.string ps] 83 (0,0)) from (Below.heap_alloc _ _ _ (by have:=HZ4.out;omega)).trans HR4.out)
    have HQ6:=h_ (show (w4.alloc (.cells #[.int .u64 (x:Int),.string s] 83)).heap[w4.heap.size]?=some (.cells #[.int .u64 (x:Int),.string s] 83 (0,0)) from heap_alloc_new _ _)
    have HG6:=h_ (show w.heap.size < w4.heap.size∧w4.heap.size < (w4.alloc (.cells #[.int .u64 (x:Int),.string s] 83)).heap.size by rw [World.size_alloc];have:=HZ4.out;omega)
    have hp0:(w4.alloc (.cells #[.int .u64 (x:Int),.string s] 83)).cell? ⟨w.heap.size,0,none⟩=some (.int .u64 (px:Int)):=by rw [cell_of_row _ _ _ _ _ _ HR6.out];rfl
    have hp1:(w4.alloc (.cells #[.int .u64 (x:Int),.string s] 83)).cell? ⟨w.heap.size,1,none⟩=some (.string ps):=by rw [cell_of_row _ _ _ _ _ _ HR6.out];rfl
    have HPC:=h_ (show pc (3:Int) k (ceL (px,ps)) (ceL (x,s))=pc (3:Int) k (px,ps.data.toList) (x,t) by unfold ceL;rw [HT.out])
    clear HB4 HO4 HR4 HZ4 HCell
    have HPS:=h_ (rdS_of (lstB_ok HC.out (show k≤cs.length by omega) HLG.out))
    obtain ⟨pl,hpl⟩:∃ pl,pl=ps.data.toList:=⟨_,rfl⟩
    rw [← hpl] at HPS HPC
    have hfl:=(HF.out.text (by decide)).2.1
    have hss:s.size=t.length:=HSt.out.size9
    clear hpl
    go_wp2_with fail
    generalize (w4.alloc (.cells #[.int .u64 (x:Int),.string s] 83))=w6 at *
    generalize w4.heap.size=gp at *
    refine (ref_Shared ps s pl t _ HPS.out HSt.out).mono ?_
    rintro e w62 ⟨rfl,hb⟩
    have HB62:=h_ (HB6.out.trans (hb.mono HB6.out.size))
    have HO62:=h_ (HO6.out.later hb l_)
    have HR62:=h_ ((hb.block w.heap.size (by have:=HG6.out;omega)).trans HR6.out)
    have HQ62:=h_ ((hb.block gp (by have:=HG6.out;omega)).trans HQ6.out)
    have HG62:=h_ (show w.heap.size < gp∧gp < w62.heap.size by have:=HG6.out;have:=hb.size;omega)
    clear hb HB6 HO6 HR6 HQ6 HG6
    obtain ⟨hN1,hN2⟩:=shr_le pl t
    obtain ⟨N,hN⟩:∃ N,N=shr pl t:=⟨_,rfl⟩
    rw [← hN] at hN1 hN2 ⊢
    have HN9:=h_ hN
    have hle:=h_ (encU_le N (by omega))
    clear hN
    go_wp2_with fail
    refine (ref_Uint (N:Int) (by omega) (by omega) _).mono ?_
    rintro e w7 ⟨yv,rfl,hO7,hb⟩
    rw [Int.toNat_natCast] at hO7
    have HB7:=h_ (HB62.out.trans (hb.mono HB62.out.size))
    have HO7:=h_ (HO62.out.later hb l_)
    have HR7:=h_ ((hb.block w.heap.size (by have:=HG62.out;omega)).trans HR62.out)
    have HQ7:=h_ ((hb.block gp (by have:=HG62.out;omega)).trans HQ62.out)
    have HG7:=h_ (show w.heap.size < gp∧gp < w7.heap.size by have:=HG62.out;have:=hb.size;omega)
    have hY:=hO7.rd (by have:=hle.out;omega)
    have HY7:=h_ hY
    clear hb hO7 hY HB62 HO62 HR62 HQ62 HG62
    go_wp2_with (with_reducible refine wpl_append (w.heap.size + 1) _ _ ?hs HO7.out _ (encU N) ?hx HY7.out ?hn ?hbase w.heap.size w HB7.out (by omega) ?_)
    case hs=>rfl
    case hx=>rfl
    case hn=>have:=HLen.out;have:=hle.out;omega
    case hbase=>have:=HG7.out;omega
    intro v8 w8 hO8 hB8 hg8
    have HB8:=h_ hB8
    have HO8:=h_ hO8
    have HR8:=h_ ((hg8.block w.heap.size (by have:=HG7.out;omega) (fun e=>own_ne HO7.out HR7.out _ e.symm rfl)).trans HR7.out)
    have HQ8:=h_ ((hg8.block gp (by have:=HG7.out;omega) (fun e=>own_ne HO7.out HQ7.out _ e.symm rfl)).trans HQ7.out)
    have HG8:=h_ (show w.heap.size < gp∧gp < w8.heap.size by have:=HG7.out;have:=hg8.size;omega)
    clear hO8 hB8 hg8 HO7 HB7 HR7 HQ7 HG7 HY7
    have e1:w8.cell? ⟨gp,1,none⟩=some (.string s):=by rw [cell_of_row _ _ _ _ _ _ HQ8.out];rfl
    have HS2:=h_ (HSt.out.dropS N)
    obtain ⟨bv,w9,hrun,hRd,hb⟩:=bytes_of_str HS2.out w8
    rw [hss] at hrun
    have HB9:=h_ (HB8.out.trans (hb.mono HB8.out.size))
    have HO9:=h_ (HO8.out.later hb l_)
    have HR9:=h_ ((hb.block w.heap.size (by have:=HG8.out;omega)).trans HR8.out)
    have HQ9:=h_ ((hb.block gp (by have:=HG8.out;omega)).trans HQ8.out)
    have HG9:=h_ (show w.heap.size < gp∧gp < w9.heap.size by have:=HG8.out;have:=hb.size;omega)
    clear hb HB8 HO8 HR8 HQ8 HG8
    have HRd:=h_ hRd
    have hll:(t.drop N).length≤256:=by rw [List.length_drop];omega
    have hlb:=h_ (show (encB (t.drop N)).length≤10 + 256 by rw [encB_length];have:=encU_le (t.drop N).length (by omega);omega)
    clear hRd hll
    go_wp2_with fail
    refine (ref_Bytes bv (t.drop N) w9 HRd.out).mono ?_
    rintro e w10 ⟨y2,rfl,hO10,hb⟩
    have HB10:=h_ (HB9.out.trans (hb.mono HB9.out.size))
    have HO10:=h_ (HO9.out.later hb l_)
    have HR10:=h_ ((hb.block w.heap.size (by have:=HG9.out;omega)).trans HR9.out)
    have HQ10:=h_ ((hb.block gp (by have:=HG9.out;omega)).trans HQ9.out)
    have HG10:=h_ (show w.heap.size < gp∧gp < w10.heap.size by have:=HG9.out;have:=hb.size;omega)
    have hY:=hO10.rd (by have:=hlb.out;omega)
    have HY10:=h_ hY
    clear hb hO10 hY HB9 HO9 HR9 HQ9 HG9
    go_wp2_with (with_reducible refine wpl_append (w.heap.size + 1) _ _ ?hs HO10.out _ (encB (t.drop N)) ?hx HY10.out ?hn ?hbase w.heap.size w HB10.out (by omega) ?_)
    case hs=>rfl
    case hx=>rfl
    case hn=>have:=HLen.out;have:=hlb.out;rw [List.length_append];have:=hle.out;omega
    case hbase=>have:=HG10.out;omega
    intro v11 w11 hO11 hB11 hg11
    have HB11:=h_ hB11
    have HO11:=h_ hO11
    have HR11:=h_ ((hg11.block w.heap.size (by have:=HG10.out;omega) (fun e=>own_ne HO10.out HR10.out _ e.symm rfl)).trans HR10.out)
    have HQ11:=h_ ((hg11.block gp (by have:=HG10.out;omega) (fun e=>own_ne HO10.out HQ10.out _ e.symm rfl)).trans HQ10.out)
    have HG11:=h_ (show w.heap.size < gp∧gp < w11.heap.size by have:=HG10.out;have:=hg11.size;omega)
    clear hO11 hB11 hg11 HO10 HB10 HR10 HQ10 HG10 HY10
    have HO9:=h_ (show Own w11 (w.heap.size + 1) v11 (wrC (3:Int) ((cesL cs).take (k + 1))) from by rw [HNx.out (by omega) kl,HLG.out,HCG.out,HPC.out,pc_text (by decide),← List.append_assoc];dsimp only;rw [← HN9.out];exact HO11.out)
    have e0:w11.cell? ⟨gp,0,none⟩=some (.int .u64 (x:Int)):=by rw [cell_of_row _ _ _ _ _ _ HQ11.out];rfl
    have e1:w11.cell? ⟨gp,1,none⟩=some (.string s):=by rw [cell_of_row _ _ _ _ _ _ HQ11.out];rfl
    have f0:w11.frozen? ⟨w.heap.size,0,none⟩=false:=frozen_of_row _ _ _ _ _ HR11.out
    have f1:(w11.setCell ⟨w.heap.size,0,none⟩ (.int .u64 (x:Int))).frozen? ⟨w.heap.size,1,none⟩=false:=frozen_of_row _ _ _ _ _ (block_setCell HR11.out _)
    have c0:w11.cell? ⟨w.heap.size,0,none⟩=some (.int .u64 (px:Int)):=by rw [cell_of_row _ _ _ _ _ _ HR11.out];rfl
    have c1:(w11.setCell ⟨w.heap.size,0,none⟩ (.int .u64 (x:Int))).cell? ⟨w.heap.size,1,none⟩=some (.string ps):=by rw [cell_of_row _ _ _ _ _ _ (block_setCell HR11.out _)];rfl
    have HBe:=h_ (show Below w.heap.size w ((w11.setCell ⟨w.heap.size,0,none⟩ (.int .u64 (x:Int))).setCell ⟨w.heap.size,1,none⟩ (.string s)) from (HB11.out.setCell l_ _).setCell l_ _)
    have HOe:=h_ (show Own ((w11.setCell ⟨w.heap.size,0,none⟩ (.int .u64 (x:Int))).setCell ⟨w.heap.size,1,none⟩ (.string s)) (w.heap.size + 1) v11 (wrC (3:Int) ((cesL cs).take (k + 1))) from HO9.out.grown9 (grown_setCell (grown_setCell (World.grownBy.refl _ _) _) _) (fun q e9 e8=>own_ne HO9.out HR11.out q e9 (by injection e8)))
    have HRe:=h_ (show ((w11.setCell ⟨w.heap.size,0,none⟩ (.int .u64 (x:Int))).setCell ⟨w.heap.size,1,none⟩ (.string s)).heap[w.heap.size]?=some (.cells #[.int .u64 ((lstB cs (k + 1)).1:Int),.string (lstB cs (k + 1)).2] 83 (0,0)) by rw [HLs.out];exact block_setCell (block_setCell HR11.out _) _)
    have HZe:=h_ (show w.heap.size + 1≤((w11.setCell ⟨w.heap.size,0,none⟩ (.int .u64 (x:Int))).setCell ⟨w.heap.size,1,none⟩ (.string s)).heap.size by rw [World.size_setCell,World.size_setCell];have:=HG11.out;omega)
    clear HO9 HO11 HB11 HR11 HQ11 HG11
    go_wp2
    go_roundw
    case rel=>exact ⟨k + 1,by omega,by go_num,HBe,HOe,HEk,HRe,HZe⟩
    case measure=>simp [intOf];omega
   ·have hyb:((y:Int) != 0)=true:=by rw [bne_iff_ne];omega
    have HF:=h_ (show wrE (3:Int) (cesL cs)=y from by rw [HE.out,HA1.out (by rw [← HT.out,← HY.out];exact hy0)];rw [← HT.out,← HY.out])
    clear HA1 HA2 hc0 hc1
    go_wp2
    go_ret2
    exact ⟨_,by rw [HF.out];rfl,by rw [HF.out,if_neg hy0];exact own_nil _ _,HB4.out⟩
  ·obtain rfl:k=n:=by omega
   have hka:(cesL cs).take k=cesL cs:=List.take_of_length_le (by rw [cesL_length,← HN.out];exact l_)
   have HF:=h_ (show wrE (3:Int) (cesL cs)=0 from by rw [HE.out,← hka];exact HK0.out)
   have HO2:=h_ (show Own wr w.heap.size u6 (wrC (3:Int) (cesL cs)) by have:=HO.out;rw [hka] at this;exact this.base (by omega))
   clear hka hlt
   go_wp2
   go_ret2
   exact ⟨_,by rw [HF.out];rfl,by rw [HF.out,if_pos rfl];exact HO2.out,HB.out⟩
set_option maxHeartbeats 16000000 in
theorem ref_Write09u (v:Value) (cs:List CellB) (w:World) (hv:RdE w v cs) (hC:CES cs) (hk:0≤(4:Int)∧(4:Int)≤5) (hs:10 * cs.length + sumT (cesL cs)≤1000000) :
  Calls Tryz.prog 151 #[.int .i64 4,v] w (WrK w (4:Int) cs):=by
 have hlen:=hv.len
 have hsm:=hv.small
 obtain ⟨n,hn⟩:∃ n,n=cs.length:=⟨_,rfl⟩
 rw [← hn] at hlen hsm
 have HN:=h_ hn
 have HV:=h_ hv
 have HC:=h_ hC
 have HS:=h_ hs
 have d1:decide ((4:Int) < 0)=false:=decide_eq_false (by omega)
 have d2:decide ((4:Int) > 5)=false:=decide_eq_false (by omega)
 have HE:=h_ (show wrE (4:Int) (cesL cs)=errK (4:Int) (cesL cs) by unfold wrE;rw [if_neg (by omega)])
 have HK:=h_ hk
 clear hv hC hs hn hk
 have hB0:Below w.heap.size w (w.alloc (.cells #[.int .u64 0,.string ⟨#[]⟩] 83)):=(Below.refl _ _).alloc l_ _
 have HB0:=h_ hB0
 have hrow0:(w.alloc (.cells #[.int .u64 0,.string ⟨#[]⟩] 83)).heap[w.heap.size]?=some (.cells #[.int .u64 0,.string ⟨#[]⟩] 83 (0,0)):=heap_alloc_new w _
 have HR0:=h_ hrow0
 have hz0:w.heap.size + 1≤(w.alloc (.cells #[.int .u64 0,.string ⟨#[]⟩] 83)).heap.size:=by rw [World.size_alloc];omega
 have HZ0:=h_ hz0
 clear hB0 hrow0 hz0
 go_enter Tryz.func151,Tryz.ntmps151
 go_wp2
 go_loopw [6,8] (fun a i wr=>∃ k:Nat,k≤n∧i=.int .i64 k∧Hid (Below w.heap.size w wr)∧Hid (Own wr (w.heap.size + 1) a (wrC (4:Int) ((cesL cs).take k)))∧Hid (errK (4:Int) ((cesL cs).take k)=0)∧Hid (wr.heap[w.heap.size]?=some (.cells #[.int .u64 ((lstB cs k).1:Int),.string (lstB cs k).2] 83 (0,0)))∧Hid (w.heap.size + 1≤wr.heap.size)) (fun _ i _=>n - (intOf i).toNat)
 case atStart=>exact ⟨0,by omega,rfl,HB0,h_ (by rw [List.take_zero,show wrC (4:Int) []=[] from by unfold wrC;split;exact packB_nil;rfl];exact own_nil _ _),h_ rfl,HR0,HZ0⟩
 case round =>
  clear HB0 HR0 HZ0
  obtain ⟨k,hk,rfl,HB,HO,HK0,HR,HZ⟩:=hrel
  by_cases hlt:k < n
  ·have kl:k < cs.length:=by rw [← HN.out];exact hlt
   have hr:=HV.out.later HB.out l_
   obtain ⟨b,o,hidx,hcell,hblk⟩:=hr.get kl
   obtain ⟨hc0,hc1⟩:=hcell _ hr
   obtain ⟨ha1,ha2⟩:=errK_at kl HK0.out
   have HA1:=h_ ha1
   have HA2:=h_ ha2
   obtain ⟨g1,g2⟩:=CES.get HC.out kl
   have HNx:=h_ (@wrC_next (4:Int))
   have hcl:=cesL_take cs k kl
   have HCL:=h_ hcl
   have HLs:=h_ (show lstB cs (k + 1)=cs.getD k default from by unfold lstB;rw [if_neg (by omega),Nat.add_sub_cancel])
   rcases hcg:cs.getD k default with ⟨x,s⟩
   rw [hcg] at HLs
   have HCell:=h_ hcell
   rw [hcg] at hc0 hc1 HA1 HA2 g1 g2 HCL HCell
   have HCG:=h_ hcg
   dsimp only at hc0 hc1 g1 g2
   have hS:=rdS_of g2
   obtain ⟨t,ht⟩:∃ t,t=s.data.toList:=⟨_,rfl⟩
   have HT:=h_ ht
   rw [← ht] at hS
   have HSt:=h_ hS
   rcases hlg:lstB cs k with ⟨px,ps⟩
   rw [hlg] at HR
   have HLG:=h_ hlg
   have CK:=h_ (fun wz=>ref_Check (4:Int) x s t wz HSt.out (by have:=HK.out;omega) g1)
   obtain ⟨y,hy⟩:∃ y,y=checkC (4:Int) x t:=⟨_,rfl⟩
   have HY:=h_ hy
   rw [← hy] at CK
   clear hr hcell ha1 ha2 hcl hcg hS ht hlg g2 hy
   go_wp2_with fail
   refine (CK.out _).mono ?_
   rintro e w4 ⟨rfl,hb⟩
   have hz4:wr.heap.size≤w4.heap.size:=hb.size
   have HB4:=h_ (HB.out.trans (hb.mono HB.out.size))
   have HO4:=h_ (HO.out.later hb l_)
   have HR4:=h_ ((hb.block w.heap.size (by have:=HZ.out;omega)).trans HR.out)
   have HZ4:=h_ (show w.heap.size + 1≤w4.heap.size by have:=HZ.out;omega)
   obtain ⟨hc0,hc1⟩:=HCell.out w4 (HV.out.later HB4.out l_)
   try dsimp only at hc0 hc1
   clear hb hz4 CK HB HO HR HZ
   by_cases hy0:y=0
   ·have hyb:((y:Int) != 0)=false:=by rw [bne_eq_false_iff_eq];omega
    have HEk:=h_ (HA2.out (by rw [← HT.out,← HY.out];exact hy0))
    have hfit:Fit (4:Int) (x,t):=⟨by rw [← HY.out];exact hy0,g1⟩
    have HF:=h_ hfit
    clear hfit HA1 HA2
    have HLen:=h_ (wrC_small HC.out HK0.out)
    have HLen:=h_ (show (wrC (4:Int) ((cesL cs).take k)).length≤1000000 by have:=HLen.out;have:=HS.out;omega)
    have HB6:=h_ (show Below w.heap.size w (w4.alloc (.cells #[.int .u64 (x:Int),.string s] 83)) from HB4.out.alloc HB4.out.size _)
    have HO6:=h_ (show Own (w4.alloc (.cells #[.int .u64 (x:Int),.string s] 83)) (w.heap.size + 1) u6 (wrC (4:Int) ((cesL cs).take k)) from HO4.out.alloc _)
    have HR6:=h_ (show (w4.alloc (.cells #[.int .u64 (x:Int),.string s] 83)).heap[w.heap.size]?=some (.cells #[.int .u64 (px:Int),.string ps] 83 (0,0)) from (Below.heap_alloc _ _ _ (by have:=HZ4.out;omega)).trans HR4.out)
    have HQ6:=h_ (show (w4.alloc (.cells #[.int .u64 (x:Int),.string s] 83)).heap[w4.heap.size]?=some (.cells #[.int .u64 (x:Int),.string s] 83 (0,0)) from heap_alloc_new _ _)
    have HG6:=h_ (show w.heap.size < w4.heap.size∧w4.heap.size < (w4.alloc (.cells #[.int .u64 (x:Int),.string s] 83)).heap.size by rw [World.size_alloc];have:=HZ4.out;omega)
    have hp0:(w4.alloc (.cells #[.int .u64 (x:Int),.string s] 83)).cell? ⟨w.heap.size,0,none⟩=some (.int .u64 (px:Int)):=by rw [cell_of_row _ _ _ _ _ _ HR6.out];rfl
    have hp1:(w4.alloc (.cells #[.int .u64 (x:Int),.string s] 83)).cell? ⟨w.heap.size,1,none⟩=some (.string ps):=by rw [cell_of_row _ _ _ _ _ _ HR6.out];rfl
    have HPC:=h_ (show pc (4:Int) k (ceL (px,ps)) (ceL (x,s))=pc (4:Int) k (px,ps.data.toList) (x,t) by unfold ceL;rw [HT.out])
    clear HB4 HO4 HR4 HZ4 HCell
    have HPS:=h_ (rdS_of (lstB_ok HC.out (show k≤cs.length by omega) HLG.out))
    obtain ⟨pl,hpl⟩:∃ pl,pl=ps.data.toList:=⟨_,rfl⟩
    rw [← hpl] at HPS HPC
    have hfl:=(HF.out.text (by decide)).2.1
    have hss:s.size=t.length:=HSt.out.size9
    clear hpl
    go_wp2_with fail
    generalize (w4.alloc (.cells #[.int .u64 (x:Int),.string s] 83))=w6 at *
    generalize w4.heap.size=gp at *
    refine (ref_Shared ps s pl t _ HPS.out HSt.out).mono ?_
    rintro e w62 ⟨rfl,hb⟩
    have HB62:=h_ (HB6.out.trans (hb.mono HB6.out.size))
    have HO62:=h_ (HO6.out.later hb l_)
    have HR62:=h_ ((hb.block w.heap.size (by have:=HG6.out;omega)).trans HR6.out)
    have HQ62:=h_ ((hb.block gp (by have:=HG6.out;omega)).trans HQ6.out)
    have HG62:=h_ (show w.heap.size < gp∧gp < w62.heap.size by have:=HG6.out;have:=hb.size;omega)
    clear hb HB6 HO6 HR6 HQ6 HG6
    obtain ⟨hN1,hN2⟩:=shr_le pl t
    obtain ⟨N,hN⟩:∃ N,N=shr pl t:=⟨_,rfl⟩
    rw [← hN] at hN1 hN2 ⊢
    have HN9:=h_ hN
    have hle:=h_ (encU_le N (by omega))
    clear hN
    go_wp2_with fail
    refine (ref_Uint (N:Int) (by omega) (by omega) _).mono ?_
    rintro e w7 ⟨yv,rfl,hO7,hb⟩
    rw [Int.toNat_natCast] at hO7
    have HB7:=h_ (HB62.out.trans (hb.mono HB62.out.size))
    have HO7:=h_ (HO62.out.later hb l_)
    have HR7:=h_ ((hb.block w.heap.size (by have:=HG62.out;omega)).trans HR62.out)
    have HQ7:=h_ ((hb.block gp (by have:=HG62.out;omega)).trans HQ62.out)
    have HG7:=h_ (show w.heap.size < gp∧gp < w7.heap.size by have:=HG62.out;have:=hb.size;omega)
    have hY:=hO7.rd (by have:=hle.out;omega)
    have HY7:=h_ hY
    clear hb hO7 hY HB62 HO62 HR62 HQ62 HG62
    go_wp2_with (with_reducible refine wpl_append (w.heap.size + 1) _ _ ?hs HO7.out _ (encU N) ?hx HY7.out ?hn ?hbase w.heap.size w HB7.out (by omega) ?_)
    case hs=>rfl
    case hx=>rfl
    case hn=>have:=HLen.out;have:=hle.out;omega
    case hbase=>have:=HG7.out;omega
    intro v8 w8 hO8 hB8 hg8
    have HB8:=h_ hB8
    have HO8:=h_ hO8
    have HR8:=h_ ((hg8.block w.heap.size (by have:=HG7.out;omega) (fun e=>own_ne HO7.out HR7.out _ e.symm rfl)).trans HR7.out)
    have HQ8:=h_ ((hg8.block gp (by have:=HG7.out;omega) (fun e=>own_ne HO7.out HQ7.out _ e.symm rfl)).trans HQ7.out)
    have HG8:=h_ (show w.heap.size < gp∧gp < w8.heap.size by have:=HG7.out;have:=hg8.size;omega)
    clear hO8 hB8 hg8 HO7 HB7 HR7 HQ7 HG7 HY7
    have e1:w8.cell? ⟨gp,1,none⟩=some (.string s):=by rw [cell_of_row _ _ _ _ _ _ HQ8.out];rfl
    have HS2:=h_ (HSt.out.dropS N)
    obtain ⟨bv,w9,hrun,hRd,hb⟩:=bytes_of_str HS2.out w8
    rw [hss] at hrun
    have HB9:=h_ (HB8.out.trans (hb.mono HB8.out.size))
    have HO9:=h_ (HO8.out.later hb l_)
    have HR9:=h_ ((hb.block w.heap.size (by have:=HG8.out;omega)).trans HR8.out)
    have HQ9:=h_ ((hb.block gp (by have:=HG8.out;omega)).trans HQ8.out)
    have HG9:=h_ (show w.heap.size < gp∧gp < w9.heap.size by have:=HG8.out;have:=hb.size;omega)
    clear hb HB8 HO8 HR8 HQ8 HG8
    have HRd:=h_ hRd
    have hll:(t.drop N).length≤256:=by rw [List.length_drop];omega
    have hlb:=h_ (show (encB (t.drop N)).length≤10 + 256 by rw [encB_length];have:=encU_le (t.drop N).length (by omega);omega)
    clear hRd hll
    go_wp2_with fail
    refine (ref_Bytes bv (t.drop N) w9 HRd.out).mono ?_
    rintro e w10 ⟨y2,rfl,hO10,hb⟩
    have HB10:=h_ (HB9.out.trans (hb.mono HB9.out.size))
    have HO10:=h_ (HO9.out.later hb l_)
    have HR10:=h_ ((hb.block w.heap.size (by have:=HG9.out;omega)).trans HR9.out)
    have HQ10:=h_ ((hb.block gp (by have:=HG9.out;omega)).trans HQ9.out)
    have HG10:=h_ (show w.heap.size < gp∧gp < w10.heap.size by have:=HG9.out;have:=hb.size;omega)
    have hY:=hO10.rd (by have:=hlb.out;omega)
    have HY10:=h_ hY
    clear hb hO10 hY HB9 HO9 HR9 HQ9 HG9
    go_wp2_with (with_reducible refine wpl_append (w.heap.size + 1) _ _ ?hs HO10.out _ (encB (t.drop N)) ?hx HY10.out ?hn ?hbase w.heap.size w HB10.out (by omega) ?_)
    case hs=>rfl
    case hx=>rfl
    case hn=>have:=HLen.out;have:=hlb.out;rw [List.length_append];have:=hle.out;omega
    case hbase=>have:=HG10.out;omega
    intro v11 w11 hO11 hB11 hg11
    have HB11:=h_ hB11
    have HO11:=h_ hO11
    have HR11:=h_ ((hg11.block w.heap.size (by have:=HG10.out;omega) (fun e=>own_ne HO10.out HR10.out _ e.symm rfl)).trans HR10.out)
    have HQ11:=h_ ((hg11.block gp (by have:=HG10.out;omega) (fun e=>own_ne HO10.out HQ10.out _ e.symm rfl)).trans HQ10.out)
    have HG11:=h_ (show w.heap.size < gp∧gp < w11.heap.size by have:=HG10.out;have:=hg11.size;omega)
    clear hO11 hB11 hg11 HO10 HB10 HR10 HQ10 HG10 HY10
    have HO9:=h_ (show Own w11 (w.heap.size + 1) v11 (wrC (4:Int) ((cesL cs).take (k + 1))) from by rw [HNx.out (by omega) kl,HLG.out,HCG.out,HPC.out,pc_text (by decide),← List.append_assoc];dsimp only;rw [← HN9.out];exact HO11.out)
    have e0:w11.cell? ⟨gp,0,none⟩=some (.int .u64 (x:Int)):=by rw [cell_of_row _ _ _ _ _ _ HQ11.out];rfl
    have e1:w11.cell? ⟨gp,1,none⟩=some (.string s):=by rw [cell_of_row _ _ _ _ _ _ HQ11.out];rfl
    have f0:w11.frozen? ⟨w.heap.size,0,none⟩=false:=frozen_of_row _ _ _ _ _ HR11.out
    have f1:(w11.setCell ⟨w.heap.size,0,none⟩ (.int .u64 (x:Int))).frozen? ⟨w.heap.size,1,none⟩=false:=frozen_of_row _ _ _ _ _ (block_setCell HR11.out _)
    have c0:w11.cell? ⟨w.heap.size,0,none⟩=some (.int .u64 (px:Int)):=by rw [cell_of_row _ _ _ _ _ _ HR11.out];rfl
    have c1:(w11.setCell ⟨w.heap.size,0,none⟩ (.int .u64 (x:Int))).cell? ⟨w.heap.size,1,none⟩=some (.string ps):=by rw [cell_of_row _ _ _ _ _ _ (block_setCell HR11.out _)];rfl
    have HBe:=h_ (show Below w.heap.size w ((w11.setCell ⟨w.heap.size,0,none⟩ (.int .u64 (x:Int))).setCell ⟨w.heap.size,1,none⟩ (.string s)) from (HB11.out.setCell l_ _).setCell l_ _)
    have HOe:=h_ (show Own ((w11.setCell ⟨w.heap.size,0,none⟩ (.int .u64 (x:Int))).setCell ⟨w.heap.size,1,none⟩ (.string s)) (w.heap.size + 1) v11 (wrC (4:Int) ((cesL cs).take (k + 1))) from HO9.out.grown9 (grown_setCell (grown_setCell (World.grownBy.refl _ _) _) _) (fun q e9 e8=>own_ne HO9.out HR11.out q e9 (by injection e8)))
    have HRe:=h_ (show ((w11.setCell ⟨w.heap.size,0,none⟩ (.int .u64 (x:Int))).setCell ⟨w.heap.size,1,none⟩ (.string s)).heap[w.heap.size]?=some (.cells #[.int .u64 ((lstB cs (k + 1)).1:Int),.string (lstB cs (k + 1)).2] 83 (0,0)) by rw [HLs.out];exact block_setCell (block_setCell HR11.out _) _)
    have HZe:=h_ (show w.heap.size + 1≤((w11.setCell ⟨w.heap.size,0,none⟩ (.int .u64 (x:Int))).setCell ⟨w.heap.size,1,none⟩ (.string s)).heap.size by rw [World.size_setCell,World.size_setCell];have:=HG11.out;omega)
    clear HO9 HO11 HB11 HR11 HQ11 HG11
    go_wp2
    go_roundw
    case rel=>exact ⟨k + 1,by omega,by go_num,HBe,HOe,HEk,HRe,HZe⟩
    case measure=>simp [intOf];omega
   ·have hyb:((y:Int) != 0)=true:=by rw [bne_iff_ne];omega
    have HF:=h_ (show wrE (4:Int) (cesL cs)=y from by rw [HE.out,HA1.out (by rw [← HT.out,← HY.out];exact hy0)];rw [← HT.out,← HY.out])
    clear HA1 HA2 hc0 hc1
    go_wp2
    go_ret2
    exact ⟨_,by rw [HF.out];rfl,by rw [HF.out,if_neg hy0];exact own_nil _ _,HB4.out⟩
  ·obtain rfl:k=n:=by omega
   have hka:(cesL cs).take k=cesL cs:=List.take_of_length_le (by rw [cesL_length,← HN.out];exact l_)
   have HF:=h_ (show wrE (4:Int) (cesL cs)=0 from by rw [HE.out,← hka];exact HK0.out)
   have HO2:=h_ (show Own wr w.heap.size u6 (wrC (4:Int) (cesL cs)) by have:=HO.out;rw [hka] at this;exact this.base (by omega))
   clear hka hlt
   go_wp2
   go_ret2
   exact ⟨_,by rw [HF.out];rfl,by rw [HF.out,if_pos rfl];exact HO2.out,HB.out⟩
set_option maxHeartbeats 16000000 in
theorem ref_Write09c (v:Value) (cs:List CellB) (w:World) (hv:RdE w v cs) (hC:CES cs) (hk:0≤(2:Int)∧(2:Int)≤5) (hs:10 * cs.length + sumT (cesL cs)≤1000000) :
  Calls Tryz.prog 151 #[.int .i64 2,v] w (WrK w (2:Int) cs):=by
 have hlen:=hv.len
 have hsm:=hv.small
 obtain ⟨n,hn⟩:∃ n,n=cs.length:=⟨_,rfl⟩
 rw [← hn] at hlen hsm
 have HN:=h_ hn
 have HV:=h_ hv
 have HC:=h_ hC
 have HS:=h_ hs
 have d1:decide ((2:Int) < 0)=false:=decide_eq_false (by omega)
 have d2:decide ((2:Int) > 5)=false:=decide_eq_false (by omega)
 have HE:=h_ (show wrE (2:Int) (cesL cs)=errK (2:Int) (cesL cs) by unfold wrE;rw [if_neg (by omega)])
 have HK:=h_ hk
 clear hv hC hs hn hk
 have hB0:Below w.heap.size w (w.alloc (.cells #[.int .u64 0,.string ⟨#[]⟩] 83)):=(Below.refl _ _).alloc l_ _
 have HB0:=h_ hB0
 have hrow0:(w.alloc (.cells #[.int .u64 0,.string ⟨#[]⟩] 83)).heap[w.heap.size]?=some (.cells #[.int .u64 0,.string ⟨#[]⟩] 83 (0,0)):=heap_alloc_new w _
 have HR0:=h_ hrow0
 have hz0:w.heap.size + 1≤(w.alloc (.cells #[.int .u64 0,.string ⟨#[]⟩] 83)).heap.size:=by rw [World.size_alloc];omega
 have HZ0:=h_ hz0
 clear hB0 hrow0 hz0
 go_enter Tryz.func151,Tryz.ntmps151
 go_wp2
 go_loopw [6,8] (fun a i wr=>∃ k:Nat,k≤n∧i=.int .i64 k∧Hid (Below w.heap.size w wr)∧Hid (Own wr (w.heap.size + 1) a (wrC (2:Int) ((cesL cs).take k)))∧Hid (errK (2:Int) ((cesL cs).take k)=0)∧Hid (wr.heap[w.heap.size]?=some (.cells #[.int .u64 ((lstB cs k).1:Int),.string (lstB cs k).2] 83 (0,0)))∧Hid (w.heap.size + 1≤wr.heap.size)) (fun _ i _=>n - (intOf i).toNat)
 case atStart=>exact ⟨0,by omega,rfl,HB0,h_ (by rw [List.take_zero,show wrC (2:Int) []=[] from by unfold wrC;split;exact packB_nil;rfl];exact own_nil _ _),h_ rfl,HR0,HZ0⟩
 case round =>
  clear HB0 HR0 HZ0
  obtain ⟨k,hk,rfl,HB,HO,HK0,HR,HZ⟩:=hrel
  by_cases hlt:k < n
  ·have kl:k < cs.length:=by rw [← HN.out];exact hlt
   have hr:=HV.out.later HB.out l_
   obtain ⟨b,o,hidx,hcell,hblk⟩:=hr.get kl
   obtain ⟨hc0,hc1⟩:=hcell _ hr
   obtain ⟨ha1,ha2⟩:=errK_at kl HK0.out
   have HA1:=h_ ha1
   have HA2:=h_ ha2
   obtain ⟨g1,g2⟩:=CES.get HC.out kl
   have HNx:=h_ (@wrC_next (2:Int))
   have hcl:=cesL_take cs k kl
   have HCL:=h_ hcl
   have HLs:=h_ (show lstB cs (k + 1)=cs.getD k default from by unfold lstB;rw [if_neg (by omega),Nat.add_sub_cancel])
   rcases hcg:cs.getD k default with ⟨x,s⟩
   rw [hcg] at HLs
   have HCell:=h_ hcell
   rw [hcg] at hc0 hc1 HA1 HA2 g1 g2 HCL HCell
   have HCG:=h_ hcg
   dsimp only at hc0 hc1 g1 g2
   have hS:=rdS_of g2
   obtain ⟨t,ht⟩:∃ t,t=s.data.toList:=⟨_,rfl⟩
   have HT:=h_ ht
   rw [← ht] at hS
   have HSt:=h_ hS
   rcases hlg:lstB cs k with ⟨px,ps⟩
   rw [hlg] at HR
   have HLG:=h_ hlg
   have CK:=h_ (fun wz=>ref_Check (2:Int) x s t wz HSt.out (by have:=HK.out;omega) g1)
   obtain ⟨y,hy⟩:∃ y,y=checkC (2:Int) x t:=⟨_,rfl⟩
   have HY:=h_ hy
   rw [← hy] at CK
   clear hr hcell ha1 ha2 hcl hcg hS ht hlg g2 hy
   go_wp2_with fail
   refine (CK.out _).mono ?_
   rintro e w4 ⟨rfl,hb⟩
   have hz4:wr.heap.size≤w4.heap.size:=hb.size
   have HB4:=h_ (HB.out.trans (hb.mono HB.out.size))
   have HO4:=h_ (HO.out.later hb l_)
   have HR4:=h_ ((hb.block w.heap.size (by have:=HZ.out;omega)).trans HR.out)
   have HZ4:=h_ (show w.heap.size + 1≤w4.heap.size by have:=HZ.out;omega)
   obtain ⟨hc0,hc1⟩:=HCell.out w4 (HV.out.later HB4.out l_)
   try dsimp only at hc0 hc1
   clear hb hz4 CK HB HO HR HZ
   by_cases hy0:y=0
   ·have hyb:((y:Int) != 0)=false:=by rw [bne_eq_false_iff_eq];omega
    have HEk:=h_ (HA2.out (by rw [← HT.out,← HY.out];exact hy0))
    have hfit:Fit (2:Int) (x,t):=⟨by rw [← HY.out];exact hy0,g1⟩
    have HF:=h_ hfit
    clear hfit HA1 HA2
    have HX1:=h_ ((HF.out.num (by decide)).2 rfl)
    have HW2:=h_ (wrC2_next HC.out kl HK0.out HCG.out HX1.out)
    obtain ⟨r,hr⟩:∃ r,r=k % 8:=⟨_,rfl⟩
    rw [← hr] at HW2
    have hrr:(k:Int) % 8=(r:Int):=by omega
    have hr8:r < 8:=by omega
    clear hr
    have HLen:=h_ (wrC_small HC.out HK0.out)
    have HLen:=h_ (show (wrC (2:Int) ((cesL cs).take k)).length≤1000000 by have:=HLen.out;have:=HS.out;omega)
    have HB6:=h_ (show Below w.heap.size w (w4.alloc (.cells #[.int .u64 (x:Int),.string s] 83)) from HB4.out.alloc HB4.out.size _)
    have HO6:=h_ (show Own (w4.alloc (.cells #[.int .u64 (x:Int),.string s] 83)) (w.heap.size + 1) u6 (wrC (2:Int) ((cesL cs).take k)) from HO4.out.alloc _)
    have HR6:=h_ (show (w4.alloc (.cells #[.int .u64 (x:Int),.string s] 83)).heap[w.heap.size]?=some (.cells #[.int .u64 (px:Int),.string ps] 83 (0,0)) from (Below.heap_alloc _ _ _ (by have:=HZ4.out;omega)).trans HR4.out)
    have HQ6:=h_ (show (w4.alloc (.cells #[.int .u64 (x:Int),.string s] 83)).heap[w4.heap.size]?=some (.cells #[.int .u64 (x:Int),.string s] 83 (0,0)) from heap_alloc_new _ _)
    have HG6:=h_ (show w.heap.size < w4.heap.size∧w4.heap.size < (w4.alloc (.cells #[.int .u64 (x:Int),.string s] 83)).heap.size by rw [World.size_alloc];have:=HZ4.out;omega)
    have hp0:(w4.alloc (.cells #[.int .u64 (x:Int),.string s] 83)).cell? ⟨w.heap.size,0,none⟩=some (.int .u64 (px:Int)):=by rw [cell_of_row _ _ _ _ _ _ HR6.out];rfl
    have hp1:(w4.alloc (.cells #[.int .u64 (x:Int),.string s] 83)).cell? ⟨w.heap.size,1,none⟩=some (.string ps):=by rw [cell_of_row _ _ _ _ _ _ HR6.out];rfl
    have HPC:=h_ (show pc (2:Int) k (ceL (px,ps)) (ceL (x,s))=pc (2:Int) k (px,ps.data.toList) (x,t) by unfold ceL;rw [HT.out])
    clear HB4 HO4 HR4 HZ4 HCell
    by_cases hr0:r=0
    ·subst hr0
     rw [show ((0:Nat):Int)=0 from rfl] at hrr
     have HI3:=h_ (HW2.out.1 rfl)
     obtain ⟨ini,hini⟩:∃ ini,ini=wrC (2:Int) ((cesL cs).take k):=⟨_,rfl⟩
     rw [← hini] at HO6 HLen HI3
     have HbA:=h_ (show Below w.heap.size w ((w4.alloc (.cells #[.int .u64 (x:Int),.string s] 83)).alloc (.cells #[.int .u8 0] 5)) from HB6.out.alloc HB6.out.size _)
     have HOA:=h_ (show Own ((w4.alloc (.cells #[.int .u64 (x:Int),.string s] 83)).alloc (.cells #[.int .u8 0] 5)) (w.heap.size + 1) u6 ini from HO6.out.alloc _)
     have HRA:=h_ (show ((w4.alloc (.cells #[.int .u64 (x:Int),.string s] 83)).alloc (.cells #[.int .u8 0] 5)).heap[w.heap.size]?=some (.cells #[.int .u64 (px:Int),.string ps] 83 (0,0)) from (Below.heap_alloc _ _ _ (by have:=HG6.out;omega)).trans HR6.out)
     have HQA:=h_ (show ((w4.alloc (.cells #[.int .u64 (x:Int),.string s] 83)).alloc (.cells #[.int .u8 0] 5)).heap[w4.heap.size]?=some (.cells #[.int .u64 (x:Int),.string s] 83 (0,0)) from (Below.heap_alloc _ _ _ (by have:=HG6.out;omega)).trans HQ6.out)
     have HGA:=h_ (show w.heap.size < w4.heap.size∧w4.heap.size < ((w4.alloc (.cells #[.int .u64 (x:Int),.string s] 83)).alloc (.cells #[.int .u8 0] 5)).heap.size by rw [World.size_alloc];have:=HG6.out;omega)
     clear hini HW2
     go_wp2_with (with_reducible refine wpl_append (w.heap.size + 1) _ _ ?hs HOA.out _ [UInt8.ofNat (0:Int).toNat] ?hx (rd_one (w4.alloc (.cells #[.int .u64 (x:Int),.string s] 83)) 0 (by omega) (by omega)) ?hn ?hbase w.heap.size w HbA.out (by omega) ?_)
     case hs=>rfl
     case hx=>show _=Value.slice (some ⟨(w4.alloc (.cells #[.int .u64 (x:Int),.string s] 83)).heap.size,0,none⟩) 1 1;rw [World.size_alloc];rfl
     case hn=>have:=HLen.out;simp;omega
     case hbase=>have:=HGA.out;omega
     intro v8 w8 hO8 hB8 hg8
     have HB8:=h_ hB8
     have HO8:=h_ (show Own w8 (w.heap.size + 1) v8 (ini ++ [UInt8.ofNat 0]) from hO8)
     have HR8:=h_ ((hg8.block w.heap.size (by have:=HGA.out;omega) (fun e=>own_ne HOA.out HRA.out _ e.symm rfl)).trans HRA.out)
     have HQ8:=h_ ((hg8.block w4.heap.size (by have:=HGA.out;omega) (fun e=>own_ne HOA.out HQA.out _ e.symm rfl)).trans HQA.out)
     have HG8:=h_ (show w.heap.size < w4.heap.size∧w4.heap.size < w8.heap.size by have:=HGA.out;have:=hg8.size;omega)
     have HYL:=h_ (show (UInt8.ofNat 0).toNat < 2 ^ 0 by decide)
     have HLen:=h_ (show ini.length + 1≤1000001 by have:=HLen.out;omega)
     clear hO8 hB8 hg8 HO6 HB6 HR6 HQ6 HG6 HOA HbA HRA HQA HGA hp0 hp1
     go_wp2
     generalize w4.heap.size=gp at *
     obtain ⟨q,hq⟩:∃ q,q=(ini ++ [UInt8.ofNat 0]).length:=⟨_,rfl⟩
     have hq1:q=ini.length + 1:=by rw [hq];simp
     have hqs:q≤1000010:=by rw [hq1];have:=HLen.out;omega
     obtain ⟨yn,hyn⟩:∃ yn,yn=(UInt8.ofNat 0).toNat:=⟨_,rfl⟩
     have hyl:yn < 2 ^ 0:=by rw [hyn];exact HYL.out
     have hRd:=HO8.out.rd (by rw [← hq];omega)
     have hlen8:=hRd.len
     rw [← hq] at hlen8
     have hix8:=hRd.idx (q - 1) (by rw [← hq];omega)
     have hcl8:=hRd.cells (q - 1) (by rw [← hq];omega)
     rw [show ((q - 1:Nat):Int)=(q:Int) - 1 from by omega] at hix8
     rw [show at8 (ini ++ [UInt8.ofNat 0]) (q - 1)=(yn:Int) from by unfold at8;rw [hyn,hq1];simp] at hcl8
     have hp0:w8.cell? ⟨gp,0,none⟩=some (.int .u64 (x:Int)):=by rw [cell_of_row _ _ _ _ _ _ HQ8.out];rfl
     have hq0:0 < q:=by omega
     have HQ1:=h_ hq1
     have HQq:=h_ hq
     have HYN:=h_ hyn
     have HYL2:=h_ hyl
     clear hRd hq hq1 hyn hyl
     go_loopw [11,12] (fun bt kk wr2=>∃ j B:Nat,j≤0∧kk=.int .i64 j∧bt=.int .u8 (B:Int)∧Hid (B=2 ^ j)∧B≤128∧w8=wr2) (fun _ kk _=>0 - (intOf kk).toNat)
     case atStart=>exact ⟨0,1,by omega,rfl,rfl,h_ rfl,by omega,rfl⟩
     case round =>
      obtain ⟨j,B,hj,rfl,rfl,HBp,hB,rfl⟩:=hrel
      by_cases hjr:j < 0
      ·exact absurd hjr (by omega)
      ·have hjr2:j=0:=by omega
       have HBr:=h_ (show B=2 ^ 0 by rw [HBp.out,hjr2])
       have hxs:x≤1:=HX1.out
       obtain ⟨P,hP⟩:∃ P:Nat,P=B * x:=⟨_,rfl⟩
       have hPl:P≤128:=by rw [hP];have:B * x≤B * 1:=Nat.mul_le_mul_left _ hxs;omega
       have hsum:yn + P < 256:=by have:=HYL2.out;rw [← HBr.out] at this;omega
       have hPm:(B:Int) * (x:Int)=(P:Int):=by rw [hP];simp
       obtain ⟨hst,hfz,hbg⟩:=HO8.out.set (i:=q - 1) (by rw [← HQq.out];omega) (UInt8.ofNat (yn + P))
       rw [show cellB (UInt8.ofNat (yn + P))=.int .u8 ((yn:Int) + (P:Int)) from by unfold cellB;rw [UInt8.toNat_ofNat',Nat.mod_eq_of_lt hsum];simp] at hst
       have hbel:=HB8.out.setCell (p:=adr v8 (q - 1)) (by omega) (.int .u8 ((yn:Int) + (P:Int)))
       have hnm:w.heap.size≠(adr v8 (q - 1)).block:=by omega
       have hng:gp≠(adr v8 (q - 1)).block:=fun e9=>own_ne HO8.out HQ8.out _ (own_blk HO8.out (i:=q - 1) (by rw [← HQq.out];omega)) e9.symm
       have HB12:=h_ (show Below w.heap.size w ((w8.setCell (adr v8 (q - 1)) (.int .u8 ((yn:Int) + (P:Int)))).drew) from hbel.drew)
       have HO12:=h_ (show Own ((w8.setCell (adr v8 (q - 1)) (.int .u8 ((yn:Int) + (P:Int)))).drew) (w.heap.size + 1) v8 ((ini ++ [UInt8.ofNat 0]).set (q - 1) (UInt8.ofNat (yn + P))) from hst.drew)
       have HR12:=h_ (show ((w8.setCell (adr v8 (q - 1)) (.int .u8 ((yn:Int) + (P:Int)))).drew).heap[w.heap.size]?=some (.cells #[.int .u64 (px:Int),.string ps] 83 (0,0)) from (Below.heap_setCell _ _ _ _ hnm).trans HR8.out)
       have HQ12:=h_ (show ((w8.setCell (adr v8 (q - 1)) (.int .u8 ((yn:Int) + (P:Int)))).drew).heap[gp]?=some (.cells #[.int .u64 (x:Int),.string s] 83 (0,0)) from (Below.heap_setCell _ _ _ _ hng).trans HQ8.out)
       have HG12:=h_ (show w.heap.size < gp∧gp < ((w8.setCell (adr v8 (q - 1)) (.int .u8 ((yn:Int) + (P:Int)))).drew).heap.size by have:=HG8.out;show w.heap.size < gp∧gp < (w8.setCell (adr v8 (q - 1)) (.int .u8 ((yn:Int) + (P:Int)))).heap.size;rw [World.size_setCell];exact this)
       have hfin:(ini ++ [UInt8.ofNat 0]).set (q - 1) (UInt8.ofNat (yn + P))=wrC 2 ((cesL cs).take (k + 1)):=by rw [HI3.out,HYN.out,HQ1.out,hP,HBr.out];simp
       have HFin:=h_ hfin
       clear hst hbel hnm hng hfin hP hbg hjr2
       go_wp2_with fail
       go_region
       generalize ((w8.setCell (adr v8 (q - 1)) (.int .u8 ((yn:Int) + (P:Int)))).drew)=w12 at *
       have HO9:=h_ (show Own w12 (w.heap.size + 1) v8 (wrC (2:Int) ((cesL cs).take (k + 1))) from HFin.out ▸ HO12.out)
       have e0:w12.cell? ⟨gp,0,none⟩=some (.int .u64 (x:Int)):=by rw [cell_of_row _ _ _ _ _ _ HQ12.out];rfl
       have e1:w12.cell? ⟨gp,1,none⟩=some (.string s):=by rw [cell_of_row _ _ _ _ _ _ HQ12.out];rfl
       have f0:w12.frozen? ⟨w.heap.size,0,none⟩=false:=frozen_of_row _ _ _ _ _ HR12.out
       have f1:(w12.setCell ⟨w.heap.size,0,none⟩ (.int .u64 (x:Int))).frozen? ⟨w.heap.size,1,none⟩=false:=frozen_of_row _ _ _ _ _ (block_setCell HR12.out _)
       have c0:w12.cell? ⟨w.heap.size,0,none⟩=some (.int .u64 (px:Int)):=by rw [cell_of_row _ _ _ _ _ _ HR12.out];rfl
       have c1:(w12.setCell ⟨w.heap.size,0,none⟩ (.int .u64 (x:Int))).cell? ⟨w.heap.size,1,none⟩=some (.string ps):=by rw [cell_of_row _ _ _ _ _ _ (block_setCell HR12.out _)];rfl
       have HBe:=h_ (show Below w.heap.size w ((w12.setCell ⟨w.heap.size,0,none⟩ (.int .u64 (x:Int))).setCell ⟨w.heap.size,1,none⟩ (.string s)) from (HB12.out.setCell l_ _).setCell l_ _)
       have HOe:=h_ (show Own ((w12.setCell ⟨w.heap.size,0,none⟩ (.int .u64 (x:Int))).setCell ⟨w.heap.size,1,none⟩ (.string s)) (w.heap.size + 1) v8 (wrC (2:Int) ((cesL cs).take (k + 1))) from HO9.out.grown9 (grown_setCell (grown_setCell (World.grownBy.refl _ _) _) _) (fun q e9 e8=>own_ne HO9.out HR12.out q e9 (by injection e8)))
       have HRe:=h_ (show ((w12.setCell ⟨w.heap.size,0,none⟩ (.int .u64 (x:Int))).setCell ⟨w.heap.size,1,none⟩ (.string s)).heap[w.heap.size]?=some (.cells #[.int .u64 ((lstB cs (k + 1)).1:Int),.string (lstB cs (k + 1)).2] 83 (0,0)) by rw [HLs.out];exact block_setCell (block_setCell HR12.out _) _)
       have HZe:=h_ (show w.heap.size + 1≤((w12.setCell ⟨w.heap.size,0,none⟩ (.int .u64 (x:Int))).setCell ⟨w.heap.size,1,none⟩ (.string s)).heap.size by rw [World.size_setCell,World.size_setCell];have:=HG12.out;omega)
       clear HO9 HO12 HB12 HR12 HQ12 HG12
       go_wp2
       go_roundw
       case rel=>exact ⟨k + 1,by omega,by go_num,HBe,HOe,HEk,HRe,HZe⟩
       case measure=>simp [intOf];omega
    ·obtain ⟨ini,yb,hi1,hi2,hi3⟩:=HW2.out.2 hr0
     have e0:((r:Int) == 0)=false:=by rw [beq_eq_false_iff_ne];omega
     have HYL:=h_ hi2
     have HI3:=h_ hi3
     rw [hi1] at HO6 HLen
     have HLen:=h_ (show ini.length + 1≤1000000 by have:=HLen.out;simpa using this)
     clear hi1 hi2 hi3 HW2
     have HO8:=HO6
     have HB8:=HB6
     have HR8:=HR6
     have HQ8:=HQ6
     have HG8:=HG6
     clear HO6 HB6 HR6 HQ6 HG6
     go_wp2
     generalize (w4.alloc (.cells #[.int .u64 (x:Int),.string s] 83))=w8 at *
     generalize w4.heap.size=gp at *
     obtain ⟨q,hq⟩:∃ q,q=(ini ++ [yb]).length:=⟨_,rfl⟩
     have hq1:q=ini.length + 1:=by rw [hq];simp
     have hqs:q≤1000010:=by rw [hq1];have:=HLen.out;omega
     obtain ⟨yn,hyn⟩:∃ yn,yn=(yb).toNat:=⟨_,rfl⟩
     have hyl:yn < 2 ^ r:=by rw [hyn];exact HYL.out
     have hRd:=HO8.out.rd (by rw [← hq];omega)
     have hlen8:=hRd.len
     rw [← hq] at hlen8
     have hix8:=hRd.idx (q - 1) (by rw [← hq];omega)
     have hcl8:=hRd.cells (q - 1) (by rw [← hq];omega)
     rw [show ((q - 1:Nat):Int)=(q:Int) - 1 from by omega] at hix8
     rw [show at8 (ini ++ [yb]) (q - 1)=(yn:Int) from by unfold at8;rw [hyn,hq1];simp] at hcl8
     have hp0:w8.cell? ⟨gp,0,none⟩=some (.int .u64 (x:Int)):=by rw [cell_of_row _ _ _ _ _ _ HQ8.out];rfl
     have hq0:0 < q:=by omega
     have HQ1:=h_ hq1
     have HQq:=h_ hq
     have HYN:=h_ hyn
     have HYL2:=h_ hyl
     clear hRd hq hq1 hyn hyl
     go_loopw [11,12] (fun bt kk wr2=>∃ j B:Nat,j≤r∧kk=.int .i64 j∧bt=.int .u8 (B:Int)∧Hid (B=2 ^ j)∧B≤128∧w8=wr2) (fun _ kk _=>r - (intOf kk).toNat)
     case atStart=>exact ⟨0,1,by omega,rfl,rfl,h_ rfl,by omega,rfl⟩
     case round =>
      obtain ⟨j,B,hj,rfl,rfl,HBp,hB,rfl⟩:=hrel
      by_cases hjr:j < r
      ·have hB6:B≤64:=by rw [HBp.out];exact (show 2 ^ j≤2 ^ 6 from Nat.pow_le_pow_right (by decide) (by omega))
       go_wp2
       go_roundw
       case rel=>exact ⟨j + 1,B * 2,by omega,by go_num,by go_num,h_ (by rw [HBp.out,Nat.pow_succ]),by omega,by first | trivial | rfl⟩
       case measure=>simp [intOf];omega
      ·have hjr2:j=r:=by omega
       have HBr:=h_ (show B=2 ^ r by rw [HBp.out,hjr2])
       have hxs:x≤1:=HX1.out
       obtain ⟨P,hP⟩:∃ P:Nat,P=B * x:=⟨_,rfl⟩
       have hPl:P≤128:=by rw [hP];have:B * x≤B * 1:=Nat.mul_le_mul_left _ hxs;omega
       have hsum:yn + P < 256:=by have:=HYL2.out;rw [← HBr.out] at this;omega
       have hPm:(B:Int) * (x:Int)=(P:Int):=by rw [hP];simp
       obtain ⟨hst,hfz,hbg⟩:=HO8.out.set (i:=q - 1) (by rw [← HQq.out];omega) (UInt8.ofNat (yn + P))
       rw [show cellB (UInt8.ofNat (yn + P))=.int .u8 ((yn:Int) + (P:Int)) from by unfold cellB;rw [UInt8.toNat_ofNat',Nat.mod_eq_of_lt hsum];simp] at hst
       have hbel:=HB8.out.setCell (p:=adr u6 (q - 1)) (by omega) (.int .u8 ((yn:Int) + (P:Int)))
       have hnm:w.heap.size≠(adr u6 (q - 1)).block:=by omega
       have hng:gp≠(adr u6 (q - 1)).block:=fun e9=>own_ne HO8.out HQ8.out _ (own_blk HO8.out (i:=q - 1) (by rw [← HQq.out];omega)) e9.symm
       have HB12:=h_ (show Below w.heap.size w ((w8.setCell (adr u6 (q - 1)) (.int .u8 ((yn:Int) + (P:Int)))).drew) from hbel.drew)
       have HO12:=h_ (show Own ((w8.setCell (adr u6 (q - 1)) (.int .u8 ((yn:Int) + (P:Int)))).drew) (w.heap.size + 1) u6 ((ini ++ [yb]).set (q - 1) (UInt8.ofNat (yn + P))) from hst.drew)
       have HR12:=h_ (show ((w8.setCell (adr u6 (q - 1)) (.int .u8 ((yn:Int) + (P:Int)))).drew).heap[w.heap.size]?=some (.cells #[.int .u64 (px:Int),.string ps] 83 (0,0)) from (Below.heap_setCell _ _ _ _ hnm).trans HR8.out)
       have HQ12:=h_ (show ((w8.setCell (adr u6 (q - 1)) (.int .u8 ((yn:Int) + (P:Int)))).drew).heap[gp]?=some (.cells #[.int .u64 (x:Int),.string s] 83 (0,0)) from (Below.heap_setCell _ _ _ _ hng).trans HQ8.out)
       have HG12:=h_ (show w.heap.size < gp∧gp < ((w8.setCell (adr u6 (q - 1)) (.int .u8 ((yn:Int) + (P:Int)))).drew).heap.size by have:=HG8.out;show w.heap.size < gp∧gp < (w8.setCell (adr u6 (q - 1)) (.int .u8 ((yn:Int) + (P:Int)))).heap.size;rw [World.size_setCell];exact this)
       have hfin:(ini ++ [yb]).set (q - 1) (UInt8.ofNat (yn + P))=wrC 2 ((cesL cs).take (k + 1)):=by rw [HI3.out,HYN.out,HQ1.out,hP,HBr.out];simp
       have HFin:=h_ hfin
       clear hst hbel hnm hng hfin hP hbg hjr2
       go_wp2_with fail
       go_region
       generalize ((w8.setCell (adr u6 (q - 1)) (.int .u8 ((yn:Int) + (P:Int)))).drew)=w12 at *
       have HO9:=h_ (show Own w12 (w.heap.size + 1) u6 (wrC (2:Int) ((cesL cs).take (k + 1))) from HFin.out ▸ HO12.out)
       have e0:w12.cell? ⟨gp,0,none⟩=some (.int .u64 (x:Int)):=by rw [cell_of_row _ _ _ _ _ _ HQ12.out];rfl
       have e1:w12.cell? ⟨gp,1,none⟩=some (.string s):=by rw [cell_of_row _ _ _ _ _ _ HQ12.out];rfl
       have f0:w12.frozen? ⟨w.heap.size,0,none⟩=false:=frozen_of_row _ _ _ _ _ HR12.out
       have f1:(w12.setCell ⟨w.heap.size,0,none⟩ (.int .u64 (x:Int))).frozen? ⟨w.heap.size,1,none⟩=false:=frozen_of_row _ _ _ _ _ (block_setCell HR12.out _)
       have c0:w12.cell? ⟨w.heap.size,0,none⟩=some (.int .u64 (px:Int)):=by rw [cell_of_row _ _ _ _ _ _ HR12.out];rfl
       have c1:(w12.setCell ⟨w.heap.size,0,none⟩ (.int .u64 (x:Int))).cell? ⟨w.heap.size,1,none⟩=some (.string ps):=by rw [cell_of_row _ _ _ _ _ _ (block_setCell HR12.out _)];rfl
       have HBe:=h_ (show Below w.heap.size w ((w12.setCell ⟨w.heap.size,0,none⟩ (.int .u64 (x:Int))).setCell ⟨w.heap.size,1,none⟩ (.string s)) from (HB12.out.setCell l_ _).setCell l_ _)
       have HOe:=h_ (show Own ((w12.setCell ⟨w.heap.size,0,none⟩ (.int .u64 (x:Int))).setCell ⟨w.heap.size,1,none⟩ (.string s)) (w.heap.size + 1) u6 (wrC (2:Int) ((cesL cs).take (k + 1))) from HO9.out.grown9 (grown_setCell (grown_setCell (World.grownBy.refl _ _) _) _) (fun q e9 e8=>own_ne HO9.out HR12.out q e9 (by injection e8)))
       have HRe:=h_ (show ((w12.setCell ⟨w.heap.size,0,none⟩ (.int .u64 (x:Int))).setCell ⟨w.heap.size,1,none⟩ (.string s)).heap[w.heap.size]?=some (.cells #[.int .u64 ((lstB cs (k + 1)).1:Int),.string (lstB cs (k + 1)).2] 83 (0,0)) by rw [HLs.out];exact block_setCell (block_setCell HR12.out _) _)
       have HZe:=h_ (show w.heap.size + 1≤((w12.setCell ⟨w.heap.size,0,none⟩ (.int .u64 (x:Int))).setCell ⟨w.heap.size,1,none⟩ (.string s)).heap.size by rw [World.size_setCell,World.size_setCell];have:=HG12.out;omega)
       clear HO9 HO12 HB12 HR12 HQ12 HG12
       go_wp2
       go_roundw
       case rel=>exact ⟨k + 1,by omega,by go_num,HBe,HOe,HEk,HRe,HZe⟩
       case measure=>simp [intOf];omega
   ·have hyb:((y:Int) != 0)=true:=by rw [bne_iff_ne];omega
    have HF:=h_ (show wrE (2:Int) (cesL cs)=y from by rw [HE.out,HA1.out (by rw [← HT.out,← HY.out];exact hy0)];rw [← HT.out,← HY.out])
    clear HA1 HA2 hc0 hc1
    go_wp2
    go_ret2
    exact ⟨_,by rw [HF.out];rfl,by rw [HF.out,if_neg hy0];exact own_nil _ _,HB4.out⟩
  ·obtain rfl:k=n:=by omega
   have hka:(cesL cs).take k=cesL cs:=List.take_of_length_le (by rw [cesL_length,← HN.out];exact l_)
   have HF:=h_ (show wrE (2:Int) (cesL cs)=0 from by rw [HE.out,← hka];exact HK0.out)
   have HO2:=h_ (show Own wr w.heap.size u6 (wrC (2:Int) (cesL cs)) by have:=HO.out;rw [hka] at this;exact this.base (by omega))
   clear hka hlt
   go_wp2
   go_ret2
   exact ⟨_,by rw [HF.out];rfl,by rw [HF.out,if_pos rfl];exact HO2.out,HB.out⟩
set_option maxHeartbeats 4000000 in
theorem ref_Write09 (v:Value) (kind:Int) (cs:List CellB) (w:World) (hv:RdE w v cs) (hC:CES cs) (hk:-9223372036854775808≤kind∧kind≤9223372036854775807) (hs:10 * cs.length + sumT (cesL cs)≤1000000) :
  Calls Tryz.prog 151 #[.int .i64 kind,v] w (WrK w kind cs):=by
 by_cases h0:kind < 0∨5 < kind
 ·have HE:=h_ (show wrE kind (cesL cs)=10 by unfold wrE;rw [if_pos h0])
  by_cases h1:kind < 0
  ·have d1:decide (kind < 0)=true:=decide_eq_true h1
   clear h0
   go_enter Tryz.func151,Tryz.ntmps151
   go_wp2
   go_ret2
   exact ⟨_,by rw [HE.out];rfl,by rw [HE.out,if_neg (by decide)];exact own_nil _ _,Below.refl _ _⟩
  ·have d1:decide (kind < 0)=false:=decide_eq_false h1
   have d2:decide (kind > 5)=true:=decide_eq_true (by omega)
   clear h0
   go_enter Tryz.func151,Tryz.ntmps151
   go_wp2
   go_ret2
   exact ⟨_,by rw [HE.out];rfl,by rw [HE.out,if_neg (by decide)];exact own_nil _ _,Below.refl _ _⟩
 ·by_cases hc:kind=0∨kind=2∨kind=3∨kind=4
  ·rcases hc with rfl | rfl | rfl | rfl
   ·exact ref_Write09a v cs w hv hC (by omega) hs
   ·exact ref_Write09c v cs w hv hC (by omega) hs
   ·exact ref_Write09t v cs w hv hC (by omega) hs
   ·exact ref_Write09u v cs w hv hC (by omega) hs
  ·exact ref_Write09b v kind cs w hv hC (by omega) (by omega) (by omega) (by omega) (by omega) hs
end Go.Proofs.YtpcobefhgkiolaaGreatDoor

