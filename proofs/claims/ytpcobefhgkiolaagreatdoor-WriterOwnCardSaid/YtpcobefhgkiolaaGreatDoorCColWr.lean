/- -/
import Derived.Test.YtpcobefhgkiolaaGreatDoorCColWo
import Derived.Deep.RegionWith
import Derived.RegionTactic
set_option linter.unusedVariables false
set_option linter.unusedSimpArgs false
set_option maxRecDepth 1000000
namespace Go.Proofs.YtpcobefhgkiolaaGreatDoor
open Go.RowKit
theorem RdE.rest {w:World} {v:Value} {c:CellB} {cs:List CellB} (h:RdE w v (c :: cs)) :
  ∃ v',(∀ u,(Instr.slice 76 v (some (.int .i64 1)) none none).run Tryz.prog u=.ok v' u)∧RdE w v' cs:=by
 obtain ⟨v',h1,h2⟩:=RdG.from cellOk h 1 (by simp)
 exact ⟨v',h1,h2 w h⟩
set_option maxHeartbeats 4000000 in
theorem column_writeUints (kind : Int) (hk : kind = 1 ∨ kind = 5) (v : Value) (cs : List CellB) (w : World) (hv : RdE w v cs) (hC : CES cs) (hs : 10 * cs.length ≤ 1000000) :
    Calls Tryz.prog 190 #[v] w (RetB w (wrC kind (cesL cs))) := by
  have hlen := hv.len
  cases cs with
  | nil =>
    rw [show cesL [] = [] from rfl, wrC_none]
    have hlen : ∀ u, (Builtin.len_ #[76] 3 #[v]).run Tryz.prog u = .ok (.int .i64 0) u := hlen
    clear hv hC hs
    go_enter Tryz.func190, Tryz.ntmps190
    go_wp2
    go_ret
    exact ⟨_, rfl, own_nil _ _, Below.refl _ _⟩
  | cons c r =>
    obtain ⟨b, o, hidx, hcell, hblk⟩ := hv.get (i := 0) (by simp)
    obtain ⟨hc0, hc1⟩ := hcell _ hv
    obtain ⟨g1, g2⟩ := hC c (by simp)
    obtain ⟨sv, hsl, hrs⟩ := hv.rest
    rcases c with ⟨x, s⟩
    have hc0 : w.cell? ⟨b, o, none⟩ = some (.int .u64 (x : Int)) := hc0
    have hidx : ∀ u, (Instr.indexAt 76 v (.int .i64 0)).run Tryz.prog u = .ok (.pointer (some ⟨b, o, none⟩)) u := hidx
    dsimp only at g1
    have hl0 : ((((x, s) :: r : List CellB).length : Nat) : Int) = ((r.length + 1 : Nat) : Int) := by rw [List.length_cons]
    rw [hl0] at hlen
    have hne : (((r.length + 1 : Nat) : Int) == 0) = false := by rw [beq_eq_false_iff_ne]; omega
    obtain ⟨n, hn⟩ : ∃ n, n = r.length + 1 := ⟨_, rfl⟩
    rw [← hn] at hlen hne
    have HU := Lib.hid (fun wz (hb : Below w.heap.size w wz) => show Calls Tryz.prog 67 #[.int .u64 (x : Int)] wz fun e w' => ∃ v, e = .returned v ∧ Own w' w.heap.size v (encU x) ∧ Below w.heap.size w w' from (wire_Uint (x : Int) (by omega) (by omega) wz).mono (by
      rintro e w' ⟨v, rfl, hO, hb'⟩
      exact ⟨v, rfl, hO.base hb.size, hb.trans (hb'.mono hb.size)⟩))
    have HA := Lib.hid (fun wz yv (hb : Below w.heap.size w wz) (hO : Own wz w.heap.size yv (encU x)) => column_appendSteps w yv (encU x) x g1 sv r wz hrs (fun c hc => hC c (by simp [hc])) hb hO (by
      have := encU_le x (by omega); rw [List.length_cons] at hs; omega))
    have HW := Lib.hid (show wrC kind (cesL ((x, s) :: r)) = encU x ++ stp x (numL r) from by
      rw [← numL_cesL]; exact wrC_uints hk (ceL (x, s)) (cesL r))
    rw [HW.out]
    clear hv hC hs hcell hrs g2 hl0 hn HW
    go_enter Tryz.func190, Tryz.ntmps190
    go_wp2
    go_region_with (first
      | (go_at_call 67
         refine (HU.out _ ?hbu).mono ?_
         case hbu => exact (Below.refl _ _).drew
         rintro e w7 ⟨yv, rfl, hO7, hb7⟩)
      | (go_at_call 227
         refine (HA.out _ _ hb7 hO7).mono ?_
         rintro e w8 ⟨zv, rfl, hO8, hb8⟩))
    all_goals (
      have HO := Lib.hid hO8
      have HB := Lib.hid hb8
      clear hO8 hb8 hO7 hb7 HA HU
      go_wp2
      go_ret
      exact ⟨_, rfl, HO.out, HB.out⟩)
end Go.Proofs.YtpcobefhgkiolaaGreatDoor


/- -/
namespace Go.Proofs.YtpcobefhgkiolaaGreatDoor
open Go.RowKit
theorem u8_bit {y x r:Nat} (hr:r < 8) (hy:y < 2 ^ r) (hx:x≤1):bits .or .u8 (y:Int) ((x:Int) * 2 ^ r % 256)=((UInt8.ofNat (y + 2 ^ r * x)).toNat:Int):=by
 have hp:2 ^ r≤2 ^ 7:=Nat.pow_le_pow_right (by decide) (by omega)
 have hm:2 ^ r * x≤2 ^ r * 1:=Nat.mul_le_mul_left _ hx
 have hs:y + 2 ^ r * x < 256:=by
  have h2:2 ^ (r + 1)≤2 ^ 8:=Nat.pow_le_pow_right (by decide) (by omega)
  rw [Nat.pow_succ] at h2
  omega
 have e:(x:Int) * 2 ^ r % 256=((2 ^ r * x:Nat):Int):=by
  have:((2 ^ r * x:Nat):Int)=(x:Int) * 2 ^ r:=by rw [Nat.mul_comm];simp
  rw [← this];omega
 have h:=(bits_nat .u8 8 (by decide) wraps_u8 y (2 ^ r * x) (by omega) (by omega)).2
 rw [e,h,UInt8.toNat_ofNat',Nat.mod_eq_of_lt hs,Nat.or_comm,← Nat.two_pow_add_eq_or_of_lt hy,Nat.add_comm]
theorem wrC2_len {cs:List CellB} {k:Nat} (hk:k≤cs.length):(wrC 2 ((cesL cs).take k)).length=(k + 7) / 8:=by
 unfold wrC
 rw [if_pos rfl,packB_len,List.length_map,List.length_take,cesL_length,Nat.min_eq_left hk]
theorem wrC2_bit {cs:List CellB} (hC:CES cs) (hE:errK 2 (cesL cs)=0) {M k:Nat} (hk:k < cs.length) (hM:(cs.length + 7) / 8=M) :
  ∃ y x:Nat,(cs.getD k default).1=x∧x≤1∧y < 2 ^ (k % 8)∧k / 8 < (wrC 2 ((cesL cs).take k) ++ List.replicate (M - (k + 7) / 8) 0).length∧((wrC 2 ((cesL cs).take k) ++ List.replicate (M - (k + 7) / 8) 0).getD (k / 8) 0).toNat=y ∧
   (wrC 2 ((cesL cs).take k) ++ List.replicate (M - (k + 7) / 8) 0).set (k / 8) (UInt8.ofNat (y + 2 ^ (k % 8) * x))=wrC 2 ((cesL cs).take (k + 1)) ++ List.replicate (M - (k + 1 + 7) / 8) 0:=by
 have hEk:errK 2 ((cesL cs).take k)=0:=by
  apply Decidable.of_not_not
  intro h
  exact h ((errK_take h).symm.trans hE)
 have hf:=errK_fit hE (fun c hc=>ce_cases hC hc)
 have hin:ceL (cs.getD k default) ∈ cesL cs:=by
  rw [← cesL_getD hk]
  have e:(cesL cs).getD k default=(cesL cs)[k]'(by rw [cesL_length];exact hk):=by simp [List.getD,cesL_length,hk]
  rw [e];exact List.getElem_mem _
 have hx:=((hf _ hin).num (by decide)).2 rfl
 have hl:=wrC2_len (cs:=cs) (k:=k) (by omega)
 rcases hg:cs.getD k default with ⟨x,s⟩
 rw [hg] at hx
 have hx:x≤1:=hx
 obtain ⟨n1,n2⟩:=wrC2_next hC hk hEk hg hx
 by_cases h8:k % 8=0
 ·have e1:=n1 h8
  refine ⟨0,x,rfl,hx,Nat.two_pow_pos _,?_,?_,?_⟩
  ·rw [List.length_append,hl,List.length_replicate];omega
  ·unfold List.getD
   rw [List.getElem?_append_right (by omega),List.getElem?_replicate]
   split <;> rfl
  ·rw [e1,h8,List.set_append_right _ _ (by omega),hl,show k / 8 - (k + 7) / 8=0 from by omega,show M - (k + 7) / 8=(M - (k + 1 + 7) / 8) + 1 from by omega,List.replicate_succ]
   simp
 ·obtain ⟨ini,y,i1,i2,i3⟩:=n2 h8
  have hi:ini.length=k / 8:=by
   have:=congrArg List.length i1
   rw [hl,List.length_append,List.length_singleton] at this
   omega
  refine ⟨y.toNat,x,rfl,hx,i2,?_,?_,?_⟩
  ·rw [List.length_append,hl];omega
  ·rw [i1,List.append_assoc,← hi];simp [List.getD]
  ·rw [i1,i3,← hi,show (k + 1 + 7) / 8=(k + 7) / 8 from by omega]
   simp
set_option maxHeartbeats 16000000 in
theorem column_writeBools (v:Value) (cs:List CellB) (w:World) (hv:RdE w v cs) (hC:CES cs) (hE:errK 2 (cesL cs)=0) (hs:10 * cs.length≤1000000) :
  Calls Tryz.prog 192 #[v] w (RetB w (wrC 2 (cesL cs))):=by
 have hlen:=hv.len
 have hsm:=hv.small
 obtain ⟨n,hn⟩:∃ n,n=cs.length:=⟨_,rfl⟩
 rw [← hn] at hlen hsm hs
 obtain ⟨M,hM⟩:∃ M,M=(n + 7) / 8:=⟨_,rfl⟩
 have hmk:=make_bytes (((n:Int) + 8 - 1) / 8) (by omega) (by omega)
 rw [show (((n:Int) + 8 - 1) / 8).toNat=M from by omega] at hmk
 have HN:=h_ hn
 have HV:=h_ hv
 have HC:=h_ hC
 have HM:=h_ hM
 have HE:=h_ hE
 clear hv hC hn hM hE
 go_enter Tryz.func192,Tryz.ntmps192
 have HB0:=h_ (show Below w.heap.size w (w.alloc (.cells (cellsB (List.replicate M 0)).toArray 5)) from (Below.refl _ w).alloc l_ _)
 have HO0:=h_ (show Own (w.alloc (.cells (cellsB (List.replicate M 0)).toArray 5)) w.heap.size (.slice (some ⟨w.heap.size,0,none⟩) M M) (List.replicate M 0) from by
  have:=own_lit w w.heap.size l_ (List.replicate M 0) (by rw [List.length_replicate];have:=HM.out;unfold maxLen;omega)
  rw [List.length_replicate] at this
  exact this)
 go_wp2
 generalize w.alloc (.cells (cellsB (List.replicate M 0)).toArray 5)=w1 at *
 obtain ⟨bv,hbv⟩:∃ bv,bv=Value.slice (some ⟨w.heap.size,0,none⟩) M M:=⟨_,rfl⟩
 rw [← hbv] at HO0 ⊢
 clear hbv hmk
 go_loopw [14] (fun i wr=>∃ k:Nat,k≤n∧i=.int .i64 k∧Hid (Below w.heap.size w wr)∧Hid (Own wr w.heap.size bv (wrC 2 ((cesL cs).take k) ++ List.replicate (M - (k + 7) / 8) 0))) (fun i _=>n - (intOf i).toNat)
 case atStart=>exact ⟨0,by omega,rfl,HB0,h_ (by rw [List.take_zero,wrC_none];exact HO0.out)⟩
 case round =>
  obtain ⟨k,hk,rfl,HB,HO⟩:=hrel
  clear HB0 HO0
  by_cases hlt:k < n
  ·have kl:k < cs.length:=by rw [← HN.out];exact hlt
   have hr:=HV.out.later HB.out l_
   obtain ⟨b,o,hidx,hcell,hblk⟩:=hr.get kl
   obtain ⟨hc0,hc1⟩:=hcell _ hr
   obtain ⟨y,x,hx,hx1,hy,hq,hyd,hset⟩:=wrC2_bit (M:=M) HC.out HE.out kl (by rw [← HN.out];exact HM.out.symm)
   rcases hcg:cs.getD k default with ⟨x',s⟩
   rw [hcg] at hx hc0 hc1
   obtain rfl:x'=x:=hx
   dsimp only at hc0 hc1
   have hts:(wrC 2 ((cesL cs).take k) ++ List.replicate (M - (k + 7) / 8) 0).length≤140737488351232:=by
    rw [List.length_append,wrC2_len (by omega),List.length_replicate];have:=HM.out;omega
   generalize wrC 2 ((cesL cs).take k) ++ List.replicate (M - (k + 7) / 8) 0=t at *
   obtain ⟨hst,hfz,hbg⟩:=HO.out.set hq (UInt8.ofNat (y + 2 ^ (k % 8) * x'))
   have hrt:=HO.out.rd hts
   have hix:=hrt.idx (k / 8) hq
   have hcel:=hrt.cells (k / 8) hq
   have hcl1:(wr.alloc (.cells #[.int .u64 (x':Int),.string s] 83)).cell? (adr bv (k / 8))=some (.int .u8 (at8 t (k / 8))):=by
    rw [World.cell?_of_block (w:=wr) (Below.heap_alloc _ _ _ (hrt.block hq))];exact hcel
   rw [show at8 t (k / 8)=(y:Int) from by unfold at8;rw [hyd]] at hcl1
   rw [show ((k / 8:Nat):Int)=(k:Int) / 8 from by omega] at hix
   have hfz1:(wr.alloc (.cells #[.int .u64 (x':Int),.string s] 83)).frozen? (adr bv (k / 8))=false:=by
    rw [World.frozen?_of_block (w:=wr) (Below.heap_alloc _ _ _ (hrt.block hq))];exact hfz
   have hor:=u8_bit (r:=k % 8) (by omega) hy hx1
   have hst1:=(HO.out.alloc (.cells #[.int .u64 (x':Int),.string s] 83)).set hq (UInt8.ofNat (y + 2 ^ (k % 8) * x'))
   have hcb:cellB (UInt8.ofNat (y + 2 ^ (k % 8) * x'))=.int .u8 (((y:Int) + 2 ^ (k % 8) * (x':Int)) % 256):=by
    unfold cellB;rw [UInt8.toNat_ofNat'];simp
   rw [hset,hcb] at hst1
   have HST:=h_ hst1.1
   have HBG:=h_ hbg
   have HB2:=h_ (((HB.out.alloc (o:=.cells #[.int .u64 (x':Int),.string s] 83) HB.out.size).setCell hbg (.int .u8 (((y:Int) + 2 ^ (k % 8) * (x':Int)) % 256))))
   clear hcb hcel hfz hst hset hcg hr hcell hyd hst1 hbg
   go_wp2_with fail
   go_region
   go_wp2
   go_roundw
   case rel=>exact ⟨k + 1,by omega,by go_num,h_ HB2.out.drew,h_ HST.out.drew⟩
   case measure=>simp [intOf];omega
  ·obtain rfl:k=n:=by omega
   have hka:(cesL cs).take k=cesL cs:=List.take_of_length_le (by rw [cesL_length,← HN.out];exact l_)
   have HO2:=h_ (show Own wr w.heap.size bv (wrC 2 (cesL cs)) by
    have:=HO.out
    rw [hka,HM.out,Nat.sub_self,List.replicate_zero,List.append_nil] at this
    exact this)
   clear hka hlt
   go_wp2
   go_ret
   exact ⟨_,rfl,HO2.out,HB.out⟩
end Go.Proofs.YtpcobefhgkiolaaGreatDoor


/- -/
namespace Go.Proofs.YtpcobefhgkiolaaGreatDoor
open Go.RowKit
theorem errK_pre {kind:Int} {l:List Ce} {k:Nat} (h:errK kind l=0):errK kind (l.take k)=0:=by
 apply Decidable.of_not_not
 intro h9
 exact h9 ((errK_take h9).symm.trans h)
set_option maxHeartbeats 16000000 in
theorem column_writeTexts (kind:Int) (hk:kind=3∨kind=4) (v:Value) (cs:List CellB) (w:World) (hv:RdE w v cs) (hC:CES cs) (hE:errK kind (cesL cs)=0) (hs:10 * cs.length + sumT (cesL cs)≤1000000) :
  Calls Tryz.prog 194 #[v] w (RetB w (wrC kind (cesL cs))):=by
 have hlen:=hv.len
 have hsm:=hv.small
 obtain ⟨n,hn⟩:∃ n,n=cs.length:=⟨_,rfl⟩
 rw [← hn] at hlen hsm
 have HN:=h_ hn
 have HV:=h_ hv
 have HC:=h_ hC
 have HS:=h_ hs
 have HE:=h_ hE
 have HK:=h_ hk
 have HB0:=h_ (Below.refl w.heap.size w)
 clear hv hC hs hn hE hk
 go_enter Tryz.func194,Tryz.ntmps194
 go_wp2
 go_loopw [3,4,10] (fun b a i wr=>∃ k:Nat,k≤n∧i=.int .i64 k∧a=.string (lstB cs k).2∧Hid (Below w.heap.size w wr)∧Hid (Own wr w.heap.size b (wrC kind ((cesL cs).take k)))) (fun _ _ i _=>n - (intOf i).toNat)
 case atStart=>exact ⟨0,by omega,rfl,rfl,HB0,h_ (by rw [List.take_zero,wrC_none];exact own_nil _ _)⟩
 case round =>
  clear HB0
  obtain ⟨k,hk,rfl,rfl,HB,HO⟩:=hrel
  by_cases hlt:k < n
  ·have kl:k < cs.length:=by rw [← HN.out];exact hlt
   have hr:=HV.out.later HB.out l_
   obtain ⟨b,o,hidx,hcell,hblk⟩:=hr.get kl
   obtain ⟨hc0,hc1⟩:=hcell _ hr
   obtain ⟨g1,g2⟩:=CES.get HC.out kl
   have h2:kind≠2:=by rcases HK.out with h | h <;> omega
   have HNx:=h_ (wrC_next h2 kl)
   have HLs:=h_ (show lstB cs (k + 1)=cs.getD k default from by unfold lstB;rw [if_neg (by omega),Nat.add_sub_cancel])
   have hin:ceL (cs.getD k default) ∈ cesL cs:=by
    rw [← cesL_getD kl]
    have e:(cesL cs).getD k default=(cesL cs)[k]'(by rw [cesL_length];exact kl):=by simp [List.getD,cesL_length,kl]
    rw [e];exact List.getElem_mem _
   have hfit:=errK_fit HE.out (fun c hc=>ce_cases HC.out hc) _ hin
   have HLen:=h_ (wrC_small HC.out (errK_pre (k:=k) HE.out))
   have HLen:=h_ (show (wrC kind ((cesL cs).take k)).length≤1000000 by have:=HLen.out;have:=HS.out;omega)
   rcases hcg:cs.getD k default with ⟨x,s⟩
   rw [hcg] at HLs HNx hc0 hc1 g1 g2 hfit
   dsimp only at hc0 hc1 g1 g2
   have hS:=rdS_of g2
   obtain ⟨t,ht⟩:∃ t,t=s.data.toList:=⟨_,rfl⟩
   have HT:=h_ ht
   rw [← ht] at hS
   have HSt:=h_ hS
   rcases hlg:lstB cs k with ⟨px,ps⟩
   rw [hlg] at HNx
   have HPS:=h_ (rdS_of (lstB_ok HC.out (show k≤cs.length by omega) hlg))
   obtain ⟨pl,hpl⟩:∃ pl,pl=ps.data.toList:=⟨_,rfl⟩
   have HPC:=h_ (show pc kind k (ceL (px,ps)) (ceL (x,s))=encU (shr pl t) ++ encB (t.drop (shr pl t)) by rw [pc_text HK.out];unfold ceL;rw [hpl,ht])
   rw [← hpl] at HPS
   have hfl:t.length≤256:=by
    have:=(hfit.text HK.out).2.1
    rw [show (ceL (x,s)).2=s.data.toList from rfl,← ht] at this
    exact this
   have hss:s.size=t.length:=HSt.out.size9
   have HB6:=h_ (show Below w.heap.size w (wr.alloc (.cells #[.int .u64 (x:Int),.string s] 83)) from HB.out.alloc HB.out.size _)
   have HO6:=h_ (show Own (wr.alloc (.cells #[.int .u64 (x:Int),.string s] 83)) w.heap.size u3 (wrC kind ((cesL cs).take k)) from HO.out.alloc _)
   have HQ6:=h_ (show (wr.alloc (.cells #[.int .u64 (x:Int),.string s] 83)).heap[wr.heap.size]?=some (.cells #[.int .u64 (x:Int),.string s] 83 (0,0)) from heap_alloc_new _ _)
   have HG6:=h_ (show w.heap.size≤wr.heap.size∧wr.heap.size < (wr.alloc (.cells #[.int .u64 (x:Int),.string s] 83)).heap.size by rw [World.size_alloc];have:=HB.out.size;omega)
   clear hr hcell hcg hlg hpl ht hS hin hfit g2 HB HO h2
   go_wp2_with fail
   generalize (wr.alloc (.cells #[.int .u64 (x:Int),.string s] 83))=w6 at *
   generalize wr.heap.size=gp at *
   refine (column_Shared ps s pl t _ HPS.out HSt.out).mono ?_
   rintro e w62 ⟨rfl,hb⟩
   have HB62:=h_ (HB6.out.trans (hb.mono HB6.out.size))
   have HO62:=h_ (HO6.out.later hb l_)
   have HQ62:=h_ ((hb.block gp (by have:=HG6.out;omega)).trans HQ6.out)
   have HG62:=h_ (show w.heap.size≤gp∧gp < w62.heap.size by have:=HG6.out;have:=hb.size;omega)
   clear hb HB6 HO6 HQ6 HG6
   obtain ⟨hN1,hN2⟩:=shr_le pl t
   obtain ⟨N,hN⟩:∃ N,N=shr pl t:=⟨_,rfl⟩
   rw [← hN] at hN1 hN2 HPC ⊢
   have hle:=h_ (encU_le N (by omega))
   clear hN
   go_wp2_with fail
   refine (wire_Uint (N:Int) (by omega) (by omega) _).mono ?_
   rintro e w7 ⟨yv,rfl,hO7,hb⟩
   rw [Int.toNat_natCast] at hO7
   have HB7:=h_ (HB62.out.trans (hb.mono HB62.out.size))
   have HO7:=h_ (HO62.out.later hb l_)
   have HQ7:=h_ ((hb.block gp (by have:=HG62.out;omega)).trans HQ62.out)
   have HG7:=h_ (show w.heap.size≤gp∧gp < w7.heap.size by have:=HG62.out;have:=hb.size;omega)
   have hY:=hO7.rd (by have:=hle.out;omega)
   have HY7:=h_ hY
   clear hb hO7 hY HB62 HO62 HQ62 HG62
   go_wp2_with (with_reducible refine wpl_append w.heap.size _ _ ?hs HO7.out _ (encU N) ?hx HY7.out ?hn ?hbase w.heap.size w HB7.out l_ ?_)
   case hs=>rfl
   case hx=>rfl
   case hn=>have:=HLen.out;have:=hle.out;omega
   case hbase=>have:=HG7.out;omega
   intro v8 w8 hO8 hB8 hg8
   have HB8:=h_ hB8
   have HO8:=h_ hO8
   have HQ8:=h_ ((hg8.block gp (by have:=HG7.out;omega) (fun e=>own_ne HO7.out HQ7.out _ e.symm rfl)).trans HQ7.out)
   have HG8:=h_ (show w.heap.size≤gp∧gp < w8.heap.size by have:=HG7.out;have:=hg8.size;omega)
   clear hO8 hB8 hg8 HO7 HB7 HQ7 HG7 HY7
   have e1:w8.cell? ⟨gp,1,none⟩=some (.string s):=by rw [cell_of_row _ _ _ _ _ _ HQ8.out];rfl
   have HS2:=h_ (HSt.out.dropS N)
   obtain ⟨bv,w9,hrun,hRd,hb⟩:=bytes_of_str HS2.out w8
   rw [hss] at hrun
   have HB9:=h_ (HB8.out.trans (hb.mono HB8.out.size))
   have HO9:=h_ (HO8.out.later hb l_)
   have HQ9:=h_ ((hb.block gp (by have:=HG8.out;omega)).trans HQ8.out)
   have HG9:=h_ (show w.heap.size≤gp∧gp < w9.heap.size by have:=HG8.out;have:=hb.size;omega)
   clear hb HB8 HO8 HQ8 HG8
   have HRd:=h_ hRd
   have hll:(t.drop N).length≤256:=by rw [List.length_drop];omega
   have hlb:=h_ (show (encB (t.drop N)).length≤10 + 256 by rw [encB_length];have:=encU_le (t.drop N).length (by omega);omega)
   clear hRd hll
   go_wp2_with fail
   refine (wire_Bytes bv (t.drop N) w9 HRd.out).mono ?_
   rintro e w10 ⟨y2,rfl,hO10,hb⟩
   have HB10:=h_ (HB9.out.trans (hb.mono HB9.out.size))
   have HO10:=h_ (HO9.out.later hb l_)
   have HQ10:=h_ ((hb.block gp (by have:=HG9.out;omega)).trans HQ9.out)
   have HG10:=h_ (show w.heap.size≤gp∧gp < w10.heap.size by have:=HG9.out;have:=hb.size;omega)
   have hY:=hO10.rd (by have:=hlb.out;omega)
   have HY10:=h_ hY
   clear hb hO10 hY HB9 HO9 HQ9 HG9
   go_wp2_with (with_reducible refine wpl_append w.heap.size _ _ ?hs HO10.out _ (encB (t.drop N)) ?hx HY10.out ?hn ?hbase w.heap.size w HB10.out l_ ?_)
   case hs=>rfl
   case hx=>rfl
   case hn=>have:=HLen.out;have:=hlb.out;rw [List.length_append];have:=hle.out;omega
   case hbase=>have:=HG10.out;omega
   intro v11 w11 hO11 hB11 hg11
   have HB11:=h_ hB11
   have HQ11:=h_ ((hg11.block gp (by have:=HG10.out;omega) (fun e=>own_ne HO10.out HQ10.out _ e.symm rfl)).trans HQ10.out)
   have HO9:=h_ (show Own w11 w.heap.size v11 (wrC kind ((cesL cs).take (k + 1))) from by rw [HNx.out,HPC.out,← List.append_assoc];exact hO11)
   clear hO11 hB11 hg11 HO10 HB10 HQ10 HG10 HY10
   have e1:w11.cell? ⟨gp,1,none⟩=some (.string s):=by rw [cell_of_row _ _ _ _ _ _ HQ11.out];rfl
   have HLs2:=h_ (show Value.string s=.string (lstB cs (k + 1)).2 by rw [HLs.out])
   clear HQ11
   go_wp2
   go_roundw
   case rel=>exact ⟨k + 1,by omega,by go_num,HLs2.out,HB11,HO9⟩
   case measure=>simp [intOf];omega
  ·obtain rfl:k=n:=by omega
   have hka:(cesL cs).take k=cesL cs:=List.take_of_length_le (by rw [cesL_length,← HN.out];exact l_)
   have HO2:=h_ (show Own wr w.heap.size u3 (wrC kind (cesL cs)) by have:=HO.out;rw [hka] at this;exact this)
   clear hka hlt
   go_wp2
   go_ret
   exact ⟨_,rfl,HO2.out,HB.out⟩
end Go.Proofs.YtpcobefhgkiolaaGreatDoor

