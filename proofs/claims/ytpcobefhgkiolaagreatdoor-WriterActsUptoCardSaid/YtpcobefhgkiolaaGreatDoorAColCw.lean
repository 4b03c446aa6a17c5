/- -/
import Derived.Test.YtpcobefhgkiolaaGreatDoorABaseB
import Derived.Test.YtpcobefhgkiolaaGreatDoorAColTk
import Derived.Test.YtpcobefhgkiolaaGreatDoorACell
import Derived.Laws.EntriesVeiled
import Derived.Test.YtpcobefhgkiolaaGreatDoorAColWr
set_option linter.unusedVariables false
set_option linter.unusedSimpArgs false
set_option maxRecDepth 1000000
namespace Go.Proofs.YtpcobefhgkiolaaGreatDoor
open Go.RowKit
section
variable {w w':World} {base gP:Nat} {ts:List TriB}
end
end Go.Proofs.YtpcobefhgkiolaaGreatDoor


/- -/
namespace Go.Proofs.YtpcobefhgkiolaaGreatDoor
open Go.RowKit
end Go.Proofs.YtpcobefhgkiolaaGreatDoor


/- -/
namespace Go.Proofs.YtpcobefhgkiolaaGreatDoor
open Go.RowKit
theorem column_checkKind (kind:Int) (w:World) (hT:Tabs w) :
  Calls Tryz.prog 144 #[.int .i64 kind] w fun e w'=>e=.returned (.int .i64 ((if kind < 0∨5 < kind then 10 else 0:Nat):Int))∧Below w.heap.size w w':=by
 have hc:=cell_Check kind 0 ⟨#[]⟩ [] w ⟨rfl,by simp⟩ hT
 have e:checkC kind 0 []=if kind < 0∨5 < kind then 10 else 0:=by
  by_cases h:kind < 0∨5 < kind
  ·unfold checkC;rw [if_pos h,if_pos h]
  ·rw [if_neg h]
   by_cases ht:kind=3∨kind=4
   ·exact checkC_text ht (by simp) (fun _=>utf8_nil)
   ·exact checkC_num (by omega) ht (fun _=>by decide)
 rw [e] at hc
 unfold cellV at hc
 generalize (if kind < 0∨5 < kind then 10 else 0:Nat)=y at *
 have HC:=h_ hc
 clear hc e hT
 go_enter Tryz.func144,Tryz.ntmps144
 go_wp2_with fail
 refine HC.out.mono ?_
 rintro e w1 ⟨rfl,hb⟩
 have HB:=h_ hb
 clear hb HC
 go_wp2
 go_ret
 exact ⟨rfl,HB.out⟩
def codecW (kind:Int):Nat:=if kind=0 then 188 else if kind=2 then 192 else if kind=3∨kind=4 then 194 else 190
def codecT (kind:Int):Nat:=if kind=0 then 189 else if kind=2 then 193 else if kind=3 then 195 else if kind=4 then 196 else 191
theorem column_codecOf0 (w:World) :
  Calls Tryz.prog 145 #[.int .i64 0] w fun e w'=>e=.returned (.agg #[.func (.func (codecW 0)) #[] #[],.func (.func (codecT 0)) #[] #[]])∧Below w.heap.size w w':=by
 go_enter Tryz.func145,Tryz.ntmps145
 go_wp2
 refine bodyPost_ret (by simp [results,Tryz.results145,go_sem];try rfl) rfl ?_
 exact ⟨rfl,((Below.refl _ _).alloc l_ _).alloc (by simp) _⟩
theorem column_codecOf1 (w:World) :
  Calls Tryz.prog 145 #[.int .i64 1] w fun e w'=>e=.returned (.agg #[.func (.func (codecW 1)) #[] #[],.func (.func (codecT 1)) #[] #[]])∧Below w.heap.size w w':=by
 go_enter Tryz.func145,Tryz.ntmps145
 go_wp2
 refine bodyPost_ret (by simp [results,Tryz.results145,go_sem];try rfl) rfl ?_
 exact ⟨rfl,((Below.refl _ _).alloc l_ _).alloc (by simp) _⟩
theorem column_codecOf2 (w:World) :
  Calls Tryz.prog 145 #[.int .i64 2] w fun e w'=>e=.returned (.agg #[.func (.func (codecW 2)) #[] #[],.func (.func (codecT 2)) #[] #[]])∧Below w.heap.size w w':=by
 go_enter Tryz.func145,Tryz.ntmps145
 go_wp2
 refine bodyPost_ret (by simp [results,Tryz.results145,go_sem];try rfl) rfl ?_
 exact ⟨rfl,((Below.refl _ _).alloc l_ _).alloc (by simp) _⟩
theorem column_codecOf3 (w:World) :
  Calls Tryz.prog 145 #[.int .i64 3] w fun e w'=>e=.returned (.agg #[.func (.func (codecW 3)) #[] #[],.func (.func (codecT 3)) #[] #[]])∧Below w.heap.size w w':=by
 go_enter Tryz.func145,Tryz.ntmps145
 go_wp2
 refine bodyPost_ret (by simp [results,Tryz.results145,go_sem];try rfl) rfl ?_
 exact ⟨rfl,((Below.refl _ _).alloc l_ _).alloc (by simp) _⟩
theorem column_codecOf4 (w:World) :
  Calls Tryz.prog 145 #[.int .i64 4] w fun e w'=>e=.returned (.agg #[.func (.func (codecW 4)) #[] #[],.func (.func (codecT 4)) #[] #[]])∧Below w.heap.size w w':=by
 go_enter Tryz.func145,Tryz.ntmps145
 go_wp2
 refine bodyPost_ret (by simp [results,Tryz.results145,go_sem];try rfl) rfl ?_
 exact ⟨rfl,((Below.refl _ _).alloc l_ _).alloc (by simp) _⟩
theorem column_codecOf5 (w:World) :
  Calls Tryz.prog 145 #[.int .i64 5] w fun e w'=>e=.returned (.agg #[.func (.func (codecW 5)) #[] #[],.func (.func (codecT 5)) #[] #[]])∧Below w.heap.size w w':=by
 go_enter Tryz.func145,Tryz.ntmps145
 go_wp2
 refine bodyPost_ret (by simp [results,Tryz.results145,go_sem];try rfl) rfl ?_
 exact ⟨rfl,((Below.refl _ _).alloc l_ _).alloc (by simp) _⟩
theorem column_codecOf (kind:Int) (hk:0≤kind∧kind≤5) (w:World) :
  Calls Tryz.prog 145 #[.int .i64 kind] w fun e w'=>e=.returned (.agg #[.func (.func (codecW kind)) #[] #[],.func (.func (codecT kind)) #[] #[]])∧Below w.heap.size w w':=by
 obtain rfl | rfl | rfl | rfl | rfl | rfl:kind=0∨kind=1∨kind=2∨kind=3∨kind=4∨kind=5:=by omega
 ·exact column_codecOf0 w
 ·exact column_codecOf1 w
 ·exact column_codecOf2 w
 ·exact column_codecOf3 w
 ·exact column_codecOf4 w
 ·exact column_codecOf5 w
theorem enters_codecW (kind:Int) (args:Array Value) (u:World):(callFunc (codecW kind) args).run Tryz.prog u=.ok (.enter (codecW kind) args) u:=by
 unfold codecW
 split
 ·exact enters9 Tryz.func188 (by kernel_rfl) rfl args u
 ·split
  ·exact enters9 Tryz.func192 (by kernel_rfl) rfl args u
  ·split
   ·exact enters9 Tryz.func194 (by kernel_rfl) rfl args u
   ·exact enters9 Tryz.func190 (by kernel_rfl) rfl args u
end Go.Proofs.YtpcobefhgkiolaaGreatDoor


/- -/
namespace Go.Proofs.YtpcobefhgkiolaaGreatDoor
open Go.RowKit
theorem column_writer (kind:Int) (hk:0≤kind∧kind≤5) (v:Value) (cs:List CellB) (w:World) (hv:RdE w v cs) (hC:CES cs) (hE:errK kind (cesL cs)=0) (hs:10 * cs.length + sumT (cesL cs)≤1000000) :
  Calls Tryz.prog (codecW kind) #[v] w (RetB w (wrC kind (cesL cs))):=by
 obtain rfl | rfl | rfl | rfl | rfl | rfl:kind=0∨kind=1∨kind=2∨kind=3∨kind=4∨kind=5:=by omega
 ·exact column_writeInts v cs w hv hC (by omega)
 ·exact column_writeUints 1 (.inl rfl) v cs w hv hC (by omega)
 ·exact column_writeBools v cs w hv hC hE (by omega)
 ·exact column_writeTexts 3 (.inl rfl) v cs w hv hC hE hs
 ·exact column_writeTexts 4 (.inr rfl) v cs w hv hC hE hs
 ·exact column_writeUints 5 (.inr rfl) v cs w hv hC (by omega)
set_option maxHeartbeats 8000000 in
theorem column_Write (kind:Int) (v:Value) (cs:List CellB) (w:World) (hv:RdE w v cs) (hC:CES cs) (hT:Tabs w) (hs:wrE kind (cesL cs)=0→10 * cs.length + sumT (cesL cs)≤1000000) :
  Calls Tryz.prog 97 #[.int .i64 kind,v] w (WrK w kind cs):=by
 have CKd:=h_ (column_checkKind kind w hT)
 by_cases hk:kind < 0∨5 < kind
 ·rw [if_pos hk] at CKd
  have HE:=h_ (show wrE kind (cesL cs)=10 by unfold wrE;rw [if_pos hk])
  clear hv hC hT hs hk
  go_enter Tryz.func97,Tryz.ntmps97
  go_wp2_with fail
  refine CKd.out.mono ?_
  rintro e w1 ⟨rfl,hb⟩
  have HB:=h_ hb
  clear hb CKd
  go_wp2
  go_ret2
  exact ⟨_,by rw [HE.out];rfl,by rw [HE.out,if_neg (by decide)];exact own_nil _ _,HB.out⟩
 ·rw [if_neg hk] at CKd
  have hk9:0≤kind∧kind≤5:=by omega
  have HKd:=h_ hk9
  have HWE:=h_ (show wrE kind (cesL cs)=errK kind (cesL cs) by unfold wrE;rw [if_neg hk])
  have hlen:=hv.len
  have hsm:=hv.small
  obtain ⟨n,hn⟩:∃ n,n=cs.length:=⟨_,rfl⟩
  rw [← hn] at hlen hsm
  have HN:=h_ hn
  have HV:=h_ hv
  have HC:=h_ hC
  have HS:=h_ hs
  have HT:=h_ hT
  clear hv hC hs hn hk hk9 hT
  go_enter Tryz.func97,Tryz.ntmps97
  go_wp2_with fail
  refine CKd.out.mono ?_
  rintro e w1 ⟨rfl,hb⟩
  have HB1:=h_ hb
  clear hb CKd
  go_wp2
  go_loopw [17] (fun i wr=>∃ k:Nat,k≤n∧i=.int .i64 k∧Hid (Below w.heap.size w wr)∧Hid (errK kind ((cesL cs).take k)=0)) (fun i _=>n - (intOf i).toNat)
  case atStart=>exact ⟨0,by omega,rfl,HB1,h_ rfl⟩
  case round =>
   clear HB1
   obtain ⟨k,hk,rfl,HB,HK0⟩:=hrel
   by_cases hlt:k < n
   ·have kl:k < cs.length:=by rw [← HN.out];exact hlt
    have hr:=HV.out.later HB.out l_
    obtain ⟨b,o,hidx,hcell,hblk⟩:=hr.get kl
    obtain ⟨hc0,hc1⟩:=hcell _ hr
    obtain ⟨ha1,ha2⟩:=errK_at kl HK0.out
    have HA1:=h_ ha1
    have HA2:=h_ ha2
    obtain ⟨g1,g2⟩:=CES.get HC.out kl
    rcases hcg:cs.getD k default with ⟨x,s⟩
    rw [hcg] at hc0 hc1 HA1 HA2 g1 g2
    dsimp only at hc0 hc1 g1 g2
    have hS:=rdS_of g2
    obtain ⟨t,ht⟩:∃ t,t=s.data.toList:=⟨_,rfl⟩
    have HTt:=h_ ht
    rw [← ht] at hS
    have HB6:=h_ (show Below w.heap.size w (wr.alloc (.cells #[.int .u64 (x:Int),.string s] 83)) from HB.out.alloc HB.out.size _)
    have CK:=h_ (cell_Check kind x s t (wr.alloc (.cells #[.int .u64 (x:Int),.string s] 83)) hS (HT.out.later (HB6.out)))
    unfold cellV at CK
    obtain ⟨y,hy⟩:∃ y,y=checkC kind x t:=⟨_,rfl⟩
    have HY:=h_ hy
    rw [← hy] at CK
    clear hr hcell ha1 ha2 hcg hS ht g1 g2 hy HB
    go_wp2_with fail
    refine CK.out.mono ?_
    rintro e w4 ⟨rfl,hb⟩
    have HB4:=h_ (HB6.out.trans (hb.mono HB6.out.size))
    clear hb CK HB6
    by_cases hy0:y=0
    ·have hyb:((y:Int) != 0)=false:=by rw [bne_eq_false_iff_eq];omega
     have HEk:=h_ (HA2.out (by rw [← HTt.out,← HY.out];exact hy0))
     clear HA1 HA2 hc0 hc1
     go_wp2
     go_roundw
     case rel=>exact ⟨k + 1,by omega,by go_num,HB4,HEk⟩
     case measure=>simp [intOf];omega
    ·have hyb:((y:Int) != 0)=true:=by rw [bne_iff_ne];omega
     have HF:=h_ (show wrE kind (cesL cs)=y from by rw [HWE.out,HA1.out (by rw [← HTt.out,← HY.out];exact hy0)];rw [← HTt.out,← HY.out])
     clear HA1 HA2 hc0 hc1
     go_wp2
     go_ret2
     exact ⟨_,by rw [HF.out];rfl,by rw [HF.out,if_neg hy0];exact own_nil _ _,HB4.out⟩
   ·obtain rfl:k=n:=by omega
    have hka:(cesL cs).take k=cesL cs:=List.take_of_length_le (by rw [cesL_length,← HN.out];exact l_)
    have hE0:errK kind (cesL cs)=0:=by rw [← hka];exact HK0.out
    have HF:=h_ (show wrE kind (cesL cs)=0 from by rw [HWE.out];exact hE0)
    have HE0:=h_ hE0
    have CD:=h_ (column_codecOf kind HKd.out wr)
    obtain ⟨nf,hnf⟩:∃ nf,nf=codecW kind:=⟨_,rfl⟩
    have hent:=enters_codecW kind #[v]
    rw [← hnf] at hent
    rw [← hnf] at CD
    have HNF:=h_ hnf
    obtain ⟨nt,hnt⟩:∃ nt,nt=codecT kind:=⟨_,rfl⟩
    rw [← hnt] at CD
    have hfd:∀ u,(Instr.field 231 (.agg #[.func (.func nf) #[] #[],.func (.func nt) #[] #[]]) 0).run Tryz.prog u=.ok (.func (.func nf) #[] #[]) u:=fun _=>by kernel_rfl
    clear hka hlt hnf hnt hE0
    go_wp2_with fail
    refine CD.out.mono ?_
    rintro e w2 ⟨rfl,hb⟩
    have HB2:=h_ (HB.out.trans (hb.mono HB.out.size))
    have CW:=h_ (column_writer kind HKd.out v cs w2 (HV.out.later HB2.out l_) HC.out HE0.out (HS.out HF.out))
    rw [← HNF.out] at CW
    clear hb CD
    go_wp2_with fail
    refine CW.out.mono ?_
    rintro e w3 ⟨bv,rfl,hO,hb⟩
    have HB3:=h_ (HB2.out.trans (hb.mono HB2.out.size))
    have HO3:=h_ (hO.base HB2.out.size)
    clear hb hO CW hent hfd
    go_wp2
    go_ret2
    exact ⟨_,by rw [HF.out];rfl,by rw [HF.out,if_pos rfl];exact HO3.out,HB3.out⟩
end Go.Proofs.YtpcobefhgkiolaaGreatDoor

