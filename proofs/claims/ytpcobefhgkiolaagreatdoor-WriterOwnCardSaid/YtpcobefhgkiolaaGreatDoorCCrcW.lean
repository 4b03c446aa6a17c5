/- -/
import Derived.Test.YtpcobefhgkiolaaGreatDoorCCrc
import Derived.Test.YtpcobefhgkiolaaGreatDoorCBaseA
import Derived.Laws.BitsAll
import Derived.Lib.SlBytesConst
set_option linter.unusedVariables false
set_option linter.unusedSimpArgs false
set_option maxRecDepth 1000000
namespace Go.Proofs.YtpcobefhgkiolaaGreatDoor
open Go.RowKit
theorem reg_take_succ {l:List UInt8} {k:Nat} (h:k < l.length) (s:Nat):Crc.reg s (l.take (k + 1))=Crc.pow 8 (Crc.reg s (l.take k) ^^^ (l.getD k 0).toNat):=by
 have e:l.take (k + 1)=l.take k ++ [l.getD k 0]:=by
  rw [List.take_succ_eq_append_getElem h];simp [List.getD,h]
 rw [e,Crc.reg_append];rfl
theorem pow_last (j s:Nat):Crc.pow (j + 1) s=Crc.step (Crc.pow j s):=by
 rw [Crc.pow_add];rfl
theorem bits_byte {q:Nat} (hq:q < 4294967296) (l:List UInt8) (k:Nat):bits .xor .u32 (q:Int) (at8 l k)=((q ^^^ (l.getD k 0).toNat:Nat):Int):=by
 unfold at8
 have:=(l.getD k 0).toNat_lt
 exact u32_xor_nat q _ hq (by omega)
theorem bits_poly {q:Nat} (hq:q < 4294967296) (ho:q % 2=1):bits .xor .u32 ((q:Int) / 2) 2197175160=((Crc.step q:Nat):Int):=by
 have e:Crc.step q=q / 2 ^^^ Crc.P:=if_pos ho
 rw [e,show ((q:Int) / 2)=((q / 2:Nat):Int) from by omega]
 exact u32_xor_nat (q / 2) Crc.P (by omega) (by decide)
set_option maxHeartbeats 400000 in
set_option maxRecDepth 1000000 in
theorem ref_Sum (v:Value) (l:List UInt8) (w:World) (h:Rd w v l) :
  Calls Tryz.prog 159 #[v] w fun e w'=>e=.returned (.int .u32 (Crc.sum l:Nat))∧w=w':=by
 have hlen:=h.len
 have hidx:=h.idx
 have hcel:=h.cells
 have hsm:=h.small
 go_enter Tryz.func159,Tryz.ntmps159
 go_wp2
 go_loop [3,4] (fun s i=>∃ k q:Nat,k≤l.length∧i=.int .i64 k∧s=.int .u32 (q:Int)∧q < 4294967296∧Hid (q=Crc.reg Crc.F (l.take k))) (fun _ i=>l.length - (intOf i).toNat)
 case atStart=>exact ⟨0,4294967295,by omega,rfl,rfl,by omega,h_ rfl⟩
 case round =>
  obtain ⟨k,q,hk,rfl,rfl,hq,HQ⟩:=hrel
  by_cases hlt:k < l.length
  ·have hb:=bits_byte hq l k
   have hc0:=at8_lo l k
   have hc1:=at8_hi l k
   obtain ⟨p,hp⟩:∃ p,p=q ^^^ (l.getD k 0).toNat:=⟨_,rfl⟩
   have hpl:p < 4294967296:=by rw [hp];exact Crc.byte_lt hq _
   rw [← hp] at hb
   have HP:=h_ hp
   clear hp
   go_wp2
   go_loop [3,5] (fun s i=>∃ j r:Nat,j≤8∧i=.int .i64 j∧s=.int .u32 (r:Int)∧r < 4294967296∧Hid (r=Crc.pow j p)) (fun _ i=>8 - (intOf i).toNat)
   case atStart=>exact ⟨0,p,by omega,rfl,rfl,hpl,h_ rfl⟩
   case round =>
    obtain ⟨j,r,hj,rfl,rfl,hr,HR⟩:=hrel
    by_cases hj8:j < 8
    ·by_cases ho:r % 2=1
     ·have hbp:=bits_poly hr ho
      have hst:=Crc.step_lt hr
      go_wp2
      go_round
      case rel=>exact ⟨j + 1,Crc.step r,by omega,by go_num,rfl,hst,h_ (by rw [pow_last,← HR.out])⟩
      case measure=>simp [intOf];omega
     ·have hst:=Crc.step_lt hr
      have he:Crc.step r=r / 2:=by unfold Crc.step;rw [if_neg ho]
      go_wp2
      go_round
      case rel=>exact ⟨j + 1,Crc.step r,by omega,by go_num,by rw [he];push_cast;rfl,hst,h_ (by rw [pow_last,← HR.out])⟩
      case measure=>simp [intOf];omega
    ·obtain rfl:j=8:=by omega
     go_wp2
     go_round
     case rel=>exact ⟨k + 1,r,by omega,by go_num,rfl,hr,h_ (by rw [reg_take_succ hlt,HR.out,HP.out,HQ.out])⟩
     case measure=>simp [intOf];omega
  ·obtain rfl:k=l.length:=by omega
   have hx:=u32_xor_nat 4294967295 q (by omega) hq
   go_wp2
   go_ret
   refine ⟨?_,rfl⟩
   have:=HQ.out
   rw [List.take_length] at this
   unfold Crc.sum
   rw [← this]
   exact congrArg (fun z=>Ending.returned (Value.int .u32 z)) hx
theorem put_cells (m:Nat):(#[.int .u8 (m % 256:Nat),.int .u8 (m / 256 % 256:Nat),.int .u8 (m / 65536 % 256:Nat),.int .u8 (m / 16777216 % 256:Nat)]:Array Value)=(cellsB (Crc.put m)).toArray:=by
 have t:∀ n,n < 256→(UInt8.ofNat n).toNat=n:=fun n hn=>by rw [UInt8.toNat_ofNat'];omega
 unfold Crc.put cellsB cellB
 simp only [List.map_cons,List.map_nil]
 rw [t _ (by omega),t _ (by omega),t _ (by omega),t _ (by omega)]
theorem put_cells_int (m:Nat) (hm:m < 4294967296):(#[.int .u8 ((m:Int) % 256),.int .u8 ((m:Int) / 256 % 256),.int .u8 ((m:Int) / 65536 % 256),.int .u8 ((m:Int) / 16777216)]:Array Value)=(cellsB (Crc.put m)).toArray:=by
 rw [← put_cells,show ((m:Int) % 256)=((m % 256:Nat):Int) from by omega,show ((m:Int) / 256 % 256)=((m / 256 % 256:Nat):Int) from by omega,show ((m:Int) / 65536 % 256)=((m / 65536 % 256:Nat):Int) from by omega,show ((m:Int) / 16777216)=((m / 16777216 % 256:Nat):Int) from by omega]
set_option maxHeartbeats 400000 in
set_option maxRecDepth 1000000 in
theorem ref_Put02 (m:Nat) (hm:m < 4294967296) (w:World) :
  Calls Tryz.prog 202 #[.int .u32 (m:Int)] w (RetB w (Crc.put m)):=by
 have hc:=put_cells_int m hm
 have HC:=h_ hc
 clear hc
 have hx:(m:Int) / 16777216 < 256:=by omega
 go_enter Tryz.func202,Tryz.ntmps202
 go_wp2
 go_ret
 refine ⟨_,rfl,?_,(Below.refl _ _).alloc l_ _⟩
 rw [HC.out]
 exact own_lit w _ l_ (Crc.put m) (by simp [Crc.put_length,maxLen])
set_option maxHeartbeats 400000 in
theorem ref_Seal (v:Value) (l:List UInt8) (w:World) (h:Rd w v l) :
  Calls Tryz.prog 153 #[v] w (RetB w (l ++ Crc.put (Crc.sum l))):=by
 have hsm:=h.small
 have hsum:=Crc.sum_lt l
 go_enter Tryz.func153,Tryz.ntmps153
 go_wp2_with (with_reducible refine wpl_append w.heap.size _ [] ?hs (own_empty w w.heap.size l_) _ l ?hx (h.alloc _) ?hn ?hbase w.heap.size w ((Below.refl _ _).alloc l_ _) l_ ?_)
 case hs=>rfl
 case hx=>rfl
 case hn=>simp;omega
 case hbase=>simp
 intro v1 w1 ho1 hb1 _
 rw [List.nil_append] at ho1
 have h1:=h.later hb1 l_
 go_wp2_with fail
 refine (ref_Sum _ _ _ h1).mono ?_
 rintro e w2 ⟨rfl,rfl⟩
 go_wp2_with fail
 refine (ref_Put02 _ hsum _).mono ?_
 rintro e w2 ⟨v2,rfl,ho2,hb2⟩
 have hb3:=hb1.trans (hb2.mono hb1.size)
 have ho3:=ho1.later hb2 l_
 have hr2:=ho2.rd (by simp [Crc.put_length])
 go_wp2_with (with_reducible refine wpl_append w.heap.size _ l ?hs ho3 _ (Crc.put (Crc.sum l)) ?hx hr2 ?hn ?hbase w.heap.size w hb3 l_ ?_)
 case hs=>rfl
 case hx=>rfl
 case hn=>simp [Crc.put_length];omega
 case hbase=>exact hb3.size
 intro v4 w4 ho4 hb4 _
 go_wp2
 go_ret
 exact ⟨_,rfl,ho4,hb4⟩
end Go.Proofs.YtpcobefhgkiolaaGreatDoor


/- -/
namespace Go.Proofs.YtpcobefhgkiolaaGreatDoor
open Go.RowKit
theorem bits_byte' {q:Nat} (hq:q < 4294967296) (c:UInt8):bits .xor .u32 (q:Int) (c.toNat:Int)=((q ^^^ c.toNat:Nat):Int):=by
 have:=c.toNat_lt
 exact u32_xor_nat q _ hq (by omega)
set_option maxHeartbeats 1000000 in
set_option maxRecDepth 1000000 in
/-- What each byte does to the sum's variable. -/
theorem crc_add (c:UInt8) (g q:Nat) (hq:q < 4294967296) (w:World) (hg:w.heap[g]?=some (.cells #[.int .u32 (q:Int)] 192 (0,0))) :
  Calls Tryz.prog 232 #[.int .u8 (c.toNat:Int),.pointer (some ⟨g,0,none⟩)] w fun e w'=>e=.returned (.tuple #[]) ∧
   w'.heap[g]?=some (.cells #[.int .u32 ((Crc.pow 8 (q ^^^ c.toNat):Nat):Int)] 192 (0,0))∧w.grownBy w' (some g):=by
 have hb:=bits_byte' hq c
 have hc1:=c.toNat_lt
 have hcell:=cell_of_one hg
 have hfree:=free_of_one hg
 obtain ⟨p,hp⟩:∃ p,p=q ^^^ c.toNat:=⟨_,rfl⟩
 have hpl:p < 4294967296:=by rw [hp];exact Crc.byte_lt hq _
 rw [← hp] at hb
 rw [← hp]
 have HG:=h_ hg
 clear hp hg
 go_enter Tryz.func232,Tryz.ntmps232
 go_wp2
 go_loopw [8] (fun i wr=>∃ j r:Nat,j≤8∧i=.int .i64 j∧r < 4294967296∧Hid (r=Crc.pow j p)∧Hid (wr.heap[g]?=some (.cells #[.int .u32 (r:Int)] 192 (0,0)))∧w.grownBy wr (some g)) (fun i _=>8 - (intOf i).toNat)
 case atStart=>exact ⟨0,p,by omega,rfl,hpl,h_ rfl,h_ (one_setCell HG.out),grown_setCell (World.grownBy.refl _ _) _⟩
 case round =>
  obtain ⟨j,r,hj,rfl,hr,HR,HW,hgr⟩:=hrel
  have hcell:=cell_of_one HW.out
  have hfree:=free_of_one HW.out
  by_cases hj8:j < 8
  ·have hst:=Crc.step_lt hr
   by_cases ho:r % 2=1
   ·have hbp:=bits_poly hr ho
    go_wp2
    go_roundw
    case rel=>exact ⟨j + 1,Crc.step r,by omega,by go_num,hst,h_ (by rw [pow_last,← HR.out]),h_ (one_setCell HW.out),grown_setCell hgr _⟩
    case measure=>simp [intOf];omega
   ·have he:Crc.step r=r / 2:=by unfold Crc.step;rw [if_neg ho]
    go_wp2
    go_roundw
    case rel=>exact ⟨j + 1,Crc.step r,by omega,by go_num,hst,h_ (by rw [pow_last,← HR.out]),h_ (by rw [he];push_cast;exact one_setCell HW.out),grown_setCell hgr _⟩
    case measure=>simp [intOf];omega
  ·obtain rfl:j=8:=by omega
   go_wp2
   go_end0
   exact ⟨rfl,by rw [← HR.out];exact HW.out,hgr⟩
set_option maxHeartbeats 1000000 in
set_option maxRecDepth 1000000 in
theorem crc_More (s:Nat) (hs:s < 4294967296) (v:Value) (l:List UInt8) (w:World) (h:Rd w v l) :
  Calls Tryz.prog 197 #[.int .u32 (s:Int),v] w fun e w'=>e=.returned (.int .u32 (Crc.more s l:Nat))∧Below w.heap.size w w':=by
 have hmf:∀ (fn:Fn) (first cap:Array Value) (w:World),(Instr.makeFunc fn first cap).run Tryz.prog w=.ok (.func fn first cap) w:=fun _ _ _ _=>rfl
 have hlen:=h.len
 have hidx:=h.idx
 have hsm:=h.small
 have hx0:bits .xor .u32 (s:Int) 4294967295=((s ^^^ 4294967295:Nat):Int):=u32_xor_nat s 4294967295 hs (by decide)
 have hq0:s ^^^ 4294967295 < 4294967296:=Nat.xor_lt_two_pow (n:=32) hs (by decide)
 obtain ⟨q0,hq⟩:∃ q,q=s ^^^ 4294967295:=⟨_,rfl⟩
 rw [← hq] at hx0 hq0
 have HQ:=h_ hq
 clear hq
 go_enter Tryz.func197,Tryz.ntmps197
 go_wp2
 go_loopw [14] (fun i wr=>∃ k q:Nat,k≤l.length∧i=.int .i64 k∧q < 4294967296∧Hid (q=Crc.reg q0 (l.take k))∧Hid (wr.heap[w.heap.size]?=some (.cells #[.int .u32 (q:Int)] 192 (0,0)))∧Below w.heap.size w wr) (fun i _=>l.length - (intOf i).toNat)
 case atStart=>exact ⟨0,q0,by omega,rfl,hq0,h_ rfl,h_ (heap_alloc_new w _),(Below.refl _ _).alloc l_ _⟩
 case round =>
  obtain ⟨k,q,hk,rfl,hq,HK,HW,hbel⟩:=hrel
  by_cases hlt:k < l.length
  ·have hcel:=(h.later hbel l_).cells k hlt
   unfold at8 at hcel
   obtain ⟨c,hc⟩:∃ c,c=l.getD k 0:=⟨_,rfl⟩
   rw [← hc] at hcel
   have hc1:=c.toNat_lt
   have HC:=h_ hc
   clear hc
   go_wp2_with fail
   refine (crc_add c w.heap.size q hq wr HW.out).mono ?_
   rintro e w2 ⟨rfl,hw2,hg2⟩
   have HW2:=h_ hw2
   clear hw2
   go_wp2
   go_roundw
   case rel=>exact ⟨k + 1,_,by omega,by go_num,Crc.pow_lt (Crc.byte_lt hq c),h_ (by rw [reg_take_succ hlt,← HC.out,← HK.out]),HW2,hbel.grown hg2 hbel.size (by simp)⟩
   case measure=>simp [intOf];omega
  ·obtain rfl:k=l.length:=by omega
   have hcell:=cell_of_one HW.out
   have hx:bits .xor .u32 (q:Int) 4294967295=((q ^^^ 4294967295:Nat):Int):=u32_xor_nat q 4294967295 hq (by decide)
   go_wp2
   go_ret
   refine ⟨?_,hbel⟩
   have e:Crc.more s l=q ^^^ 4294967295:=by
    rw [HK.out,HQ.out,List.take_length]
    unfold Crc.more
    rw [Nat.xor_comm,Nat.xor_comm Crc.F s];rfl
   rw [e]
   rfl
theorem crc_Sum (v:Value) (l:List UInt8) (w:World) (h:Rd w v l) :
  Calls Tryz.prog 148 #[v] w fun e w'=>e=.returned (.int .u32 (Crc.sum l:Nat))∧Below w.heap.size w w':=by
 go_enter Tryz.func148,Tryz.ntmps148
 go_wp2_with fail
 refine (crc_More 0 (by decide) _ _ _ h).mono ?_
 rintro e w1 ⟨rfl,hb⟩
 go_wp2
 go_ret
 exact ⟨rfl,hb⟩
set_option maxHeartbeats 400000 in
set_option maxRecDepth 1000000 in
theorem crc_Put (m:Nat) (hm:m < 4294967296) (w:World) :
  Calls Tryz.prog 147 #[.int .u32 (m:Int)] w (RetB w (Crc.put m)):=by
 have hc:=put_cells_int m hm
 have HC:=h_ hc
 clear hc
 have hx:(m:Int) / 16777216 < 256:=by omega
 go_enter Tryz.func147,Tryz.ntmps147
 go_wp2
 go_ret
 refine ⟨_,rfl,?_,(Below.refl _ _).alloc l_ _⟩
 rw [HC.out]
 exact own_lit w _ l_ (Crc.put m) (by simp [Crc.put_length,maxLen])
theorem make_bytes_cap (n c:Int) (h0:0≤n) (hc:n≤c) (h1:c≤281474976710656) (u:World):(Instr.makeSlice 36 (.int .i64 n) (.int .i64 c)).run Tryz.prog u =
  .ok (.slice (some ⟨u.heap.size,0,none⟩) n.toNat c.toNat) (u.alloc (.cells (cellsB (List.replicate c.toNat 0)).toArray 5)):=by
 obtain ⟨i0,hi,hz0,hz1,hz2⟩:=info_parts info_u8
 have h:=run_make (P:=Tryz.prog) u 36 5 i0 (.int .u8 0) Tryz.underlying36 hi hz0 .i64 .i64 n c h0 hc (by rw [hz2];omega) (by omega)
 rw [h,hz1]
 congr 3
 simp [madeCells,cellsB,cellB,Value.cells]
 apply Array.ext
 ·simp
 ·intro i h1 h2
  simp [Nat.mod_one]
theorem bytes_Equal (v1 v2:Value) (l1 l2:List UInt8) (w:World) (h1:Rd w v1 l1) (h2:Rd w v2 l2) :
  Calls Tryz.prog 163 #[v1,v2] w fun e w'=>e=.returned (.bool (l1 == l2))∧w=w':=by
 have hs1:=h1.str
 have hs2:=h2.str
 go_enter Tryz.func163,Tryz.ntmps163
 go_wp2
 go_ret
 exact ⟨rfl,rfl⟩
theorem make_copy {w':World} {g:Nat} {l:List UInt8} (hg:Hid (w'.heap[g]?=some (.cells (cellsB (splice (List.replicate (l.length + 4) 0) 0 l)).toArray 5 (0,0)))) {base:Nat} (hb:base≤g) (hs:l.length≤140737488351232):Own w' base (.slice (some ⟨g,0,none⟩) l.length (l.length + 4)) l:=by
 refine own_of_block hb hg.out rfl (by omega) (by unfold maxLen;omega) ?_ ?_
 ·simp [cellsB_length,splice]
 ·unfold cellsB
  rw [← List.map_take]
  congr 1
  simp [splice]
set_option maxHeartbeats 1000000 in
set_option maxRecDepth 1000000 in
theorem crc_Seal (v:Value) (l:List UInt8) (w:World) (h:Rd w v l) :
  Calls Tryz.prog 100 #[v] w (RetB w (l ++ Crc.put (Crc.sum l))):=by
 have hlen:=h.len
 have hl:=h.small
 have hsum:=Crc.sum_lt l
 have hmk:=make_bytes_cap (l.length:Int) ((l.length:Int) + 4) (by omega) (by omega) (by omega)
 rw [show ((l.length:Int) + 4).toNat=l.length + 4 from by omega,show (l.length:Int).toNat=l.length from by omega] at hmk
 go_enter Tryz.func100,Tryz.ntmps100
 have h1:=h.alloc (.cells (cellsB (List.replicate (l.length + 4) 0)).toArray 5)
 have hbel:=(Below.refl w.heap.size w).alloc l_ (.cells (cellsB (List.replicate (l.length + 4) 0)).toArray 5)
 have hg:=h_ (heap_alloc_new w (.cells (cellsB (List.replicate (l.length + 4) 0)).toArray 5))
 go_wp2_with ((with_reducible refine wpl_copy (some ⟨w.heap.size,0,none⟩) l.length (l.length + 4) ?hd v l ?hs h1 ?hn w.heap.size 0 (List.replicate (l.length + 4) 0) hg.out ?hdp ?hfit w.heap.size w hbel l_ ?_))
 case hd=>rfl
 case hs=>rfl
 case hn=>exact l_
 case hfit=>simp
 intro w1 HW1 hb1
 have ho1:=make_copy HW1 (Nat.le_refl w.heap.size) hl
 clear HW1 h1 hg hbel
 obtain ⟨v1,hv1⟩:∃ v1,v1=(Value.slice (some ⟨w.heap.size,0,none⟩) l.length (l.length + 4)):=⟨_,rfl⟩
 rw [← hv1] at ho1
 go_wp2_with fail
 refine (crc_Sum _ _ _ (h.later hb1 l_)).mono ?_
 rintro e w0 ⟨rfl,hb0⟩
 replace hb1:=hb1.trans (hb0.mono hb1.size)
 replace ho1:=ho1.later hb0 l_
 clear hb0
 go_wp2_with fail
 refine (crc_Put _ hsum _).mono ?_
 rintro e w2 ⟨v2,rfl,ho2,hb2⟩
 have hb3:=hb1.trans (hb2.mono hb1.size)
 have ho3:=ho1.later hb2 l_
 have hr2:=ho2.rd (by simp [Crc.put_length])
 go_wp2_with (with_reducible refine wpl_append w.heap.size _ l ?hs ho3 _ (Crc.put (Crc.sum l)) ?hx hr2 ?hn ?hbase w.heap.size w hb3 l_ ?_)
 case hs=>rw [hv1];rfl
 case hx=>rfl
 case hn=>simp [Crc.put_length];omega
 case hbase=>exact hb3.size
 intro v4 w4 ho4 hb4 _
 go_wp2
 go_ret
 exact ⟨_,rfl,ho4,hb4⟩
end Go.Proofs.YtpcobefhgkiolaaGreatDoor

