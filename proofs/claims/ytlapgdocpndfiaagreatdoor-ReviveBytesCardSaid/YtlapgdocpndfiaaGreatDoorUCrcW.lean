/- -/
import Derived.Test.YtlapgdocpndfiaaGreatDoorUCrc
import Derived.Laws.BitsAll
import Derived.Lib.SlBytesConst
set_option maxHeartbeats 2000000
set_option linter.unusedVariables false
set_option linter.unusedSimpArgs false
set_option maxRecDepth 1000000
namespace Go.Proofs.YtlapgdocpndfiaaGreatDoor
open _root_.Go.Proofs.Tryz
open Go.RowKit
theorem zg3 {l:Bs} {k:Nat} (h:k < l.length) (s:Nat):Crc.reg s (l.take (k + 1))=Crc.pow 8 (Crc.reg s (l.take k) ^^^ (l.getD k 0).toNat):=by
 have e:l.take (k + 1)=l.take k ++ [l.getD k 0]:=by
  rw [List.take_succ_eq_append_getElem h];simp [List.getD,h]
 rw [e,Crc.reg_append];rfl
theorem ziI (j s:Nat):Crc.pow (j + 1) s=Crc.step (Crc.pow j s):=by
 rw [Crc.pow_add];rfl
theorem zzN {q:Nat} (hq:q < 4294967296) (l:Bs) (k:Nat):bits .xor .u32 (q:Int) (at8 l k)=((q ^^^ (l.getD k 0).toNat:Nat):Int):=by
 unfold at8;have:=(l.getD k 0).toNat_lt;exact u32_xor_nat q _ hq (by omega)
theorem zqH {q:Nat} (hq:q < 4294967296) (ho:q % 2=1):bits .xor .u32 ((q:Int) / 2) 2197175160=((Crc.step q:Nat):Int):=by
 have e:Crc.step q=q / 2 ^^^ Crc.P:=if_pos ho;rw [e,show ((q:Int) / 2)=((q / 2:Nat):Int) from by omega];exact u32_xor_nat (q / 2) Crc.P (by omega) (by decide)
theorem zmW (v:Value) (l:Bs) (w:World) (h:Rd w v l) :
  Calls prog 140 #[v] w fun e w'=>e=.returned (.int .u32 (Crc.sum l:Nat))/\w=w':=by
 have hlen:=h.len;have hidx:=h.idx;have hcel:=h.cells;have hsm:=h.small;go_enter func140,ntmps140;go_wp2;go_loop [3,4] (fun s i=>∃ k q:Nat,k<=l.length/\i=.int .i64 k/\s=.int .u32 (q:Int)/\q < 4294967296/\Hid (q=Crc.reg Crc.F (l.take k))) (fun _ i=>l.length - (intOf i).toNat)
 case atStart=>exact ⟨0,4294967295,by omega,rfl,rfl,by omega,h_ rfl⟩
 obtain ⟨k,q,hk,rfl,rfl,hq,HQ⟩:=hrel;by_cases hlt:k < l.length
 ·have hb:=zzN hq l k;have hc0:=zeH l k;have hc1:=zcZ l k;obtain ⟨p,hp⟩:=nm_ (q ^^^ (l.getD k 0).toNat);have hpl:p < 4294967296:=by rw [hp];exact Crc.byte_lt hq _
  rw [<- hp] at hb;have HP:=h_ hp;clear hp;go_wp2;go_loop [3,5] (fun s i=>∃ j r:Nat,j<=8/\i=.int .i64 j/\s=.int .u32 (r:Int)/\r < 4294967296/\Hid (r=Crc.pow j p)) (fun _ i=>8 - (intOf i).toNat)
  case atStart=>exact ⟨0,p,by omega,rfl,rfl,hpl,h_ rfl⟩
  obtain ⟨j,r,hj,rfl,rfl,hr,HR⟩:=hrel;by_cases hj8:j < 8
  ·by_cases ho:r % 2=1
   ·have hbp:=zqH hr ho;have hst:=Crc.step_lt hr;go_wp2;go_round
    case rel=>exact ⟨j + 1,Crc.step r,by omega,by go_num,rfl,hst,h_ (by rw [ziI,<- HR.o])⟩
    simp [intOf];omega
   have hst:=Crc.step_lt hr;have he:Crc.step r=r / 2:=(by unfold Crc.step;rw [if_neg ho]);go_wp2;go_round
   case rel=>exact ⟨j + 1,Crc.step r,by omega,by go_num,by rw [he];push_cast;rfl,hst,h_ (by rw [ziI,<- HR.o])⟩
   simp [intOf];omega
  obtain rfl:j=8:=by omega
  go_wp2;go_round
  case rel=>exact ⟨k + 1,r,by omega,by go_num,rfl,hr,h_ (by rw [zg3 hlt,HR.o,HP.o,HQ.o])⟩
  simp [intOf];omega
 obtain rfl:k=l.length:=by omega
 have hx:=u32_xor_nat 4294967295 q (by omega) hq;go_wp2;go_ret;refine ⟨?_,rfl⟩;have:=HQ.o;rw [List.take_length] at this;unfold Crc.sum;rw [<- this];exact congrArg (fun z=>Ending.returned (Value.int .u32 z)) hx
def zjL (l:Bs):Bs × Bool:=if Crc.good l then (l.take (l.length - 4),true) else ([],false)
def RetO (w:World) (r:Bs × Bool) (e:Ending) (w':World):Prop:=∃ v,e=.returned (.tuple #[v,.bool r.2])/\Own w' w.heap.size v r.1/\Below w.heap.size w w'
theorem zxU (m:Nat):(#[.int .u8 (m % 256:Nat),.int .u8 (m / 256 % 256:Nat),.int .u8 (m / 65536 % 256:Nat),.int .u8 (m / 16777216 % 256:Nat)]:Array Value)=(za6 (Crc.put m)).toArray:=by
 have t:∀ n,n < 256->(UInt8.ofNat n).toNat=n:=fun n hn=>by rw [UInt8.toNat_ofNat'];omega
 unfold Crc.put za6 zeU;simp only [List.map_cons,List.map_nil];rw [t _ (by omega),t _ (by omega),t _ (by omega),t _ (by omega)]
theorem zg5 (m:Nat) (hm:m < 4294967296):(#[.int .u8 ((m:Int) % 256),.int .u8 ((m:Int) / 256 % 256),.int .u8 ((m:Int) / 65536 % 256),.int .u8 ((m:Int) / 16777216)]:Array Value)=(za6 (Crc.put m)).toArray:=by
 rw [<- zxU,show ((m:Int) % 256)=((m % 256:Nat):Int) from by omega,show ((m:Int) / 256 % 256)=((m / 256 % 256:Nat):Int) from by omega,show ((m:Int) / 65536 % 256)=((m / 65536 % 256:Nat):Int) from by omega,show ((m:Int) / 16777216)=((m / 16777216 % 256:Nat):Int) from by omega]
theorem zj9 (m:Nat) (hm:m < 4294967296) (w:World) :
  Calls prog 195 #[.int .u32 (m:Int)] w (RetB w (Crc.put m)):=by
 have hc:=zg5 m hm;have HC:=h_ hc;clear hc;have hx:(m:Int) / 16777216 < 256:=by omega
 go_enter func195,ntmps195;go_wp2;go_ret;refine ⟨_,rfl,?_,(Below.refl _ _).alloc l_ _⟩;rw [HC.o];exact zn4 w _ l_ (Crc.put m) (by simp [Crc.put_length,maxLen])
theorem zFR (v:Value) (l:Bs) (w:World) (h:Rd w v l) :
  Calls prog 207 #[v] w (RetB w (l ++ Crc.put (Crc.sum l))):=by
 have hsm:=h.small;have hsum:=Crc.sum_lt l;go_enter func207,ntmps207;go_wp2_with (with_reducible refine wpl_append w.heap.size _ [] ?hs (own_empty w w.heap.size l_) _ l ?hx (h.alloc _) ?hn ?hbase w.heap.size w ((Below.refl _ _).alloc l_ _) l_ ?_)
 case hs=>rfl
 case hx=>rfl
 case hn=>simp;omega
 case hbase=>simp
 intro v1 w1 ho1 hb1 _;rw [List.nil_append] at ho1;have h1:=h.later hb1 l_;go_wp2_with fail;refine (zmW _ _ _ h1).mono ?_;rintro e w2 ⟨rfl,rfl⟩;go_wp2_with fail;refine (zj9 _ hsum _).mono ?_;rintro e w2 ⟨v2,rfl,ho2,hb2⟩;have hb3:=hb1.trans (hb2.mono hb1.size);have ho3:=ho1.later hb2 l_;have hr2:=ho2.rd (by simp [Crc.put_length]);go_wp2_with (with_reducible refine wpl_append w.heap.size _ l ?hs ho3 _ (Crc.put (Crc.sum l)) ?hx hr2 ?hn ?hbase w.heap.size w hb3 l_ ?_)
 case hs=>rfl
 case hx=>rfl
 case hn=>simp [Crc.put_length];omega
 case hbase=>exact hb3.size
 intro v4 w4 ho4 hb4 _;go_wp2;go_ret;exact ⟨_,rfl,ho4,hb4⟩
theorem zt4 (v:Value) (l:Bs) (w:World) (h:Rd w v l) :
  Calls prog 137 #[v] w (RetO w (zjL l)):=by
 have hlen:=h.len;have hsm:=h.small;by_cases h4:l.length < 4
 ·have hf:decide ((l.length:Int) - 4 < 0)=true:=decide_eq_true (by omega);have ho:zjL l=([],false):=by unfold zjL;rw [if_neg (fun hg=>by have:=hg.1;omega)]
  go_enter func137,ntmps137;go_wp2_with fail;refine OrdR.wp_region_ord Ord.way [(0,false),(1,false),(2,false),(3,false),(4,false),(5,false),(9,false),(10,false),(11,false),(12,false),(6,true),(7,true),(8,false),(13,false),(14,false)] (by kernel_rfl) rfl (by kernel_rfl) (by kernel_rfl) (fun _ _ _ d _ h=>by cases d <;> exact h) ?_;iterate 3 (refine OrdR.ord_still rfl rfl (by kernel_rfl) (fun K hK=>?_);go_big_quiet_op;refine hK _ ?_;clear hK K)
  iterate 11 (refine OrdR.ord_skip Ord.way rfl (by kernel_rfl) (fun K hK=>?_);go_big_quiet_op;refine hK _ ?_;clear hK K)
  refine OrdR.ord_still rfl rfl (by kernel_rfl) (fun K hK=>?_);go_big_quiet_op;refine hK _ ?_;clear hK K;refine OrdR.ord_nil ?_;go_wp2;go_ret2;rw [ho];exact ⟨_,rfl,zaT _ _,(Below.refl _ _).drew⟩
 obtain ⟨n,hn⟩:∃ n,l.length=n + 4:=⟨l.length - 4,by omega⟩;have hf:decide ((n:Int) < 0)=false:=decide_eq_false (by omega);have hsum:=Crc.sum_lt (l.take n);obtain ⟨va,hsl1,hrd1⟩:=h.upto n (by omega);obtain ⟨vb,hsl2,hrd2⟩:=h.from n (by omega);have hbel:Below w.heap.size w w.drew:=(Below.refl _ _).drew;have hs2:=(hrd2 _ h.drew).str_later;rw [show (l.length:Int)=(n:Int) + 4 from by omega] at hlen;have hnb:n<=140737488351232:=by omega
 have HN:=h_ hn;clear hn;have hgood:Crc.good l ↔ Crc.put (Crc.sum (l.take n))=l.drop n:=by
  have hn:=HN.o;unfold Crc.good;rw [hn,Nat.add_sub_cancel];exact ⟨fun hh=>hh.2,fun hh=>⟨by omega,hh⟩⟩
 have HG:=h_ hgood;clear hgood;by_cases hq:Crc.put (Crc.sum (l.take n))=l.drop n
 ·have ho:zjL l=(l.take n,true):=by unfold zjL;rw [if_pos (HG.2 hq),HN.o,Nat.add_sub_cancel]
  have HO:=h_ ho;have hf2:(Crc.put (Crc.sum (l.take n)) == l.drop n)=true:=beq_iff_eq.2 hq;clear ho hq;go_enter func137,ntmps137;go_wp2_with fail;refine OrdR.wp_region_ord Ord.way [(0,false),(1,false),(2,false),(3,false),(4,false),(5,false),(9,false),(10,false),(11,false),(12,false),(6,true),(7,true),(8,false),(13,false),(14,false)] (by kernel_rfl) rfl (by kernel_rfl) (by kernel_rfl) (fun _ _ _ d _ h=>by cases d <;> exact h) ?_;iterate 10 (refine OrdR.ord_still rfl rfl (by kernel_rfl) (fun K hK=>?_);go_big_quiet_op;refine hK _ ?_;clear hK K)
  refine OrdR.ord_loud rfl (by kernel_rfl) (fun K hK=>?_);go_big_op;refine (zmW _ _ _ (hrd1 _ (h.later hbel l_))).mono ?_;rintro e w1 ⟨rfl,rfl⟩;refine hK _ _ (Ord.Grew.refl _) ?_;clear hK K;refine OrdR.ord_loud rfl (by kernel_rfl) (fun K hK=>?_);go_big_op;refine (zj9 _ hsum _).mono ?_;rintro e w1 ⟨v1,rfl,ho1,hb1⟩;have hs1:=str_later ho1 (by simp [Crc.put_length]);replace hbel:=hbel.trans (hb1.mono hbel.size);clear ho1;refine hK _ _ hb1 ?_;clear hb1;clear hK K;iterate 3 (refine OrdR.ord_still rfl rfl (by kernel_rfl) (fun K hK=>?_);go_big_quiet_op;refine hK _ ?_;clear hK K)
  refine OrdR.ord_nil ?_;have h1:=hrd1 _ ((h.later hbel l_).alloc (.cells #[] 5));go_wp2_with (with_reducible refine wpl_append w.heap.size _ [] ?hs (own_empty w1 w.heap.size hbel.size) _ (l.take n) ?hx h1 ?hn ?hbase w.heap.size w (hbel.alloc hbel.size _) l_ ?_)
  case hs=>rfl
  case hx=>rfl
  case hn=>simp;omega
  case hbase=>have:=hbel.size;simp;omega
  intro v4 w4 ho4 hb4 _;rw [List.nil_append] at ho4;go_wp2;go_ret2;rw [HO.o];exact ⟨_,rfl,ho4,hb4⟩
 have ho:zjL l=([],false):=by unfold zjL;rw [if_neg (fun hg=>hq (HG.1 hg))]
 have HO:=h_ ho;have hf2:(Crc.put (Crc.sum (l.take n)) == l.drop n)=false:=by
  rw [Bool.eq_false_iff];exact fun hh=>hq (beq_iff_eq.1 hh)
 clear ho hq;go_enter func137,ntmps137;go_wp2_with fail;refine OrdR.wp_region_ord Ord.way [(0,false),(1,false),(2,false),(3,false),(4,false),(5,false),(9,false),(10,false),(11,false),(12,false),(6,true),(7,true),(8,false),(13,false),(14,false)] (by kernel_rfl) rfl (by kernel_rfl) (by kernel_rfl) (fun _ _ _ d _ h=>by cases d <;> exact h) ?_;iterate 10 (refine OrdR.ord_still rfl rfl (by kernel_rfl) (fun K hK=>?_);go_big_quiet_op;refine hK _ ?_;clear hK K)
 refine OrdR.ord_loud rfl (by kernel_rfl) (fun K hK=>?_);go_big_op;refine (zmW _ _ _ (hrd1 _ (h.later hbel l_))).mono ?_;rintro e w1 ⟨rfl,rfl⟩;refine hK _ _ (Ord.Grew.refl _) ?_;clear hK K;refine OrdR.ord_loud rfl (by kernel_rfl) (fun K hK=>?_);go_big_op;refine (zj9 _ hsum _).mono ?_;rintro e w1 ⟨v1,rfl,ho1,hb1⟩;have hs1:=str_later ho1 (by simp [Crc.put_length]);replace hbel:=hbel.trans (hb1.mono hbel.size);clear ho1;refine hK _ _ hb1 ?_;clear hb1;clear hK K;iterate 3 (refine OrdR.ord_still rfl rfl (by kernel_rfl) (fun K hK=>?_);go_big_quiet_op;refine hK _ ?_;clear hK K)
 refine OrdR.ord_nil ?_;go_wp2;go_ret2;rw [HO.o];exact ⟨_,rfl,zaT _ _,hbel⟩
/- -/
theorem bits_byte' {q:Nat} (hq:q < 4294967296) (c:UInt8):bits .xor .u32 (q:Int) (c.toNat:Int)=((q ^^^ c.toNat:Nat):Int):=by
 have:=c.toNat_lt;exact u32_xor_nat q _ hq (by omega)
/-- What each byte does to the sum's variable. -/
theorem zEG (c:UInt8) (g q:Nat) (hq:q < 4294967296) (w:World) (hg:w.heap[g]?=some (.cells #[.int .u32 (q:Int)] 115 (0,0))) :
  Calls prog 244 #[.int .u8 (c.toNat:Int),.pointer (some ⟨g,0,none⟩)] w fun e w'=>e=.returned (.tuple #[]) /\
   w'.heap[g]?=some (.cells #[.int .u32 ((Crc.pow 8 (q ^^^ c.toNat):Nat):Int)] 115 (0,0))/\w.grownBy w' (some g):=by
 have hb:=bits_byte' hq c;have hc1:=c.toNat_lt;have hcell:=cell_of_one hg;have hfree:=free_of_one hg;obtain ⟨p,hp⟩:=nm_ (q ^^^ c.toNat);have hpl:p < 4294967296:=by rw [hp];exact Crc.byte_lt hq _
 rw [<- hp] at hb;rw [<- hp];have HG:=h_ hg;clear hp hg;go_enter func244,ntmps244;go_wp2;go_loopw [8] (fun i wr=>∃ j r:Nat,j<=8/\i=.int .i64 j/\r < 4294967296/\Hid (r=Crc.pow j p)/\Hid (wr.heap[g]?=some (.cells #[.int .u32 (r:Int)] 115 (0,0)))/\w.grownBy wr (some g)) (fun i _=>8 - (intOf i).toNat)
 case atStart=>exact ⟨0,p,by omega,rfl,hpl,h_ rfl,h_ (one_setCell HG.o),za2 (World.grownBy.refl _ _) _⟩
 obtain ⟨j,r,hj,rfl,hr,HR,HW,hgr⟩:=hrel;have hcell:=cell_of_one HW.o;have hfree:=free_of_one HW.o;by_cases hj8:j < 8
 ·have hst:=Crc.step_lt hr;by_cases ho:r % 2=1
  ·have hbp:=zqH hr ho;go_wp2;go_roundw
   case rel=>exact ⟨j + 1,Crc.step r,by omega,by go_num,hst,h_ (by rw [ziI,<- HR.o]),h_ (one_setCell HW.o),za2 hgr _⟩
   simp [intOf];omega
  have he:Crc.step r=r / 2:=by unfold Crc.step;rw [if_neg ho]
  go_wp2;go_roundw
  case rel=>exact ⟨j + 1,Crc.step r,by omega,by go_num,hst,h_ (by rw [ziI,<- HR.o]),h_ (by rw [he];push_cast;exact one_setCell HW.o),za2 hgr _⟩
  simp [intOf];omega
 obtain rfl:j=8:=by omega
 go_wp2;go_end0;exact ⟨rfl,by rw [<- HR.o];exact HW.o,hgr⟩
theorem zBU (s:Nat) (hs:s < 4294967296) (v:Value) (l:Bs) (w:World) (h:Rd w v l) :
  Calls prog 209 #[.int .u32 (s:Int),v] w fun e w'=>e=.returned (.int .u32 (Crc.more s l:Nat))/\Below w.heap.size w w':=by
 have hmf:∀ (fn:Fn) (first cap:Array Value) (w:World),(Instr.makeFunc fn first cap).run prog w=.ok (.func fn first cap) w:=fun _ _ _ _=>rfl;have hlen:=h.len;have hidx:=h.idx;have hsm:=h.small;have hx0:bits .xor .u32 (s:Int) 4294967295=((s ^^^ 4294967295:Nat):Int):=u32_xor_nat s 4294967295 hs (by decide);have hq0:s ^^^ 4294967295 < 4294967296:=Nat.xor_lt_two_pow (n:=32) hs (by decide);obtain ⟨q0,hq⟩:∃ q,q=s ^^^ 4294967295:=⟨_,rfl⟩;rw [<- hq] at hx0 hq0;have HQ:=h_ hq;clear hq;go_enter func209,ntmps209;go_wp2;go_loopw [14] (fun i wr=>∃ k q:Nat,k<=l.length/\i=.int .i64 k/\q < 4294967296/\Hid (q=Crc.reg q0 (l.take k))/\Hid (wr.heap[w.heap.size]?=some (.cells #[.int .u32 (q:Int)] 115 (0,0)))/\Below w.heap.size w wr) (fun i _=>l.length - (intOf i).toNat)
 case atStart=>exact ⟨0,q0,by omega,rfl,hq0,h_ rfl,h_ (heap_alloc_new w _),(Below.refl _ _).alloc l_ _⟩
 obtain ⟨k,q,hk,rfl,hq,HK,HW,hbel⟩:=hrel;by_cases hlt:k < l.length
 ·have hcel:=(h.later hbel l_).cells k hlt;unfold at8 at hcel;obtain ⟨c,hc⟩:=nm_ (l.getD k 0);rw [<- hc] at hcel;have hc1:=c.toNat_lt;have HC:=h_ hc;clear hc;go_wp2_with fail;refine (zEG c w.heap.size q hq wr HW.o).mono ?_;rintro e w2 ⟨rfl,hw2,hg2⟩;have HW2:=h_ hw2;clear hw2;go_wp2;go_roundw
  case rel=>exact ⟨k + 1,_,by omega,by go_num,Crc.pow_lt (Crc.byte_lt hq c),h_ (by rw [zg3 hlt,<- HC.o,<- HK.o]),HW2,hbel.grown hg2 hbel.size (by simp)⟩
  simp [intOf];omega
 obtain rfl:k=l.length:=by omega
 have hcell:=cell_of_one HW.o;have hx:bits .xor .u32 (q:Int) 4294967295=((q ^^^ 4294967295:Nat):Int):=u32_xor_nat q 4294967295 hq (by decide);go_wp2;go_ret;refine ⟨?_,hbel⟩;have e:Crc.more s l=q ^^^ 4294967295:=by
  rw [HK.o,HQ.o,List.take_length];unfold Crc.more;rw [Nat.xor_comm,Nat.xor_comm Crc.F s];rfl
 rw [e];rfl
theorem zrY (v:Value) (l:Bs) (w:World) (h:Rd w v l) :
  Calls prog 159 #[v] w fun e w'=>e=.returned (.int .u32 (Crc.sum l:Nat))/\Below w.heap.size w w':=by
 go_enter func159,ntmps159;go_wp2_with fail;refine (zBU 0 (by decide) _ _ _ h).mono ?_;rintro e w1 ⟨rfl,hb⟩;go_wp2;go_ret;exact ⟨rfl,hb⟩
theorem zrZ (m:Nat) (hm:m < 4294967296) (w:World) :
  Calls prog 158 #[.int .u32 (m:Int)] w (RetB w (Crc.put m)):=by
 have hc:=zg5 m hm;have HC:=h_ hc;clear hc;have hx:(m:Int) / 16777216 < 256:=by omega
 go_enter func158,ntmps158;go_wp2;go_ret;refine ⟨_,rfl,?_,(Below.refl _ _).alloc l_ _⟩;rw [HC.o];exact zn4 w _ l_ (Crc.put m) (by simp [Crc.put_length,maxLen])
theorem zl4 (n c:Int) (h0:0<=n) (hc:n<=c) (h1:c<=281474976710656) (u:World):(Instr.makeSlice 22 (.int .i64 n) (.int .i64 c)).run prog u =
  .ok (.slice (some ⟨u.heap.size,0,none⟩) n.toNat c.toNat) (u.alloc (.cells (za6 (List.replicate c.toNat 0)).toArray 5)):=by
 obtain ⟨i0,hi,hz0,hz1,hz2⟩:=info_parts zgY;have h:=run_make (P:=prog) u 22 5 i0 (.int .u8 0) underlying22 hi hz0 .i64 .i64 n c h0 hc (by rw [hz2];omega) (by omega);rw [h,hz1];congr 3;simp [madeCells,za6,zeU,Value.cells];apply Array.ext
 ·simp
 intro i h1 h2;simp [Nat.mod_one]
theorem bytes_Equal (v1 v2:Value) (l1 l2:Bs) (w:World) (h1:Rd w v1 l1) (h2:Rd w v2 l2) :
  Calls prog 155 #[v1,v2] w fun e w'=>e=.returned (.bool (l1 == l2))/\w=w':=by
 have hs1:=h1.str;have hs2:=h2.str;go_enter func155,ntmps155;go_wp2;go_ret;exact ⟨rfl,rfl⟩
theorem zyJ {w':World} {g:Nat} {l:Bs} (hg:Hid (w'.heap[g]?=some (.cells (za6 (splice (List.replicate (l.length + 4) 0) 0 l)).toArray 5 (0,0)))) {base:Nat} (hb:base<=g) (hs:l.length<=140737488351232):Own w' base (.slice (some ⟨g,0,none⟩) l.length (l.length + 4)) l:=by
 refine zc5 hb hg.o rfl (by omega) (by unfold maxLen;omega) ?_ ?_
 ·simp [za0,splice]
 unfold za6;rw [<- List.map_take];congr 1;simp [splice]
theorem zBT (v:Value) (l:Bs) (w:World) (h:Rd w v l) :
  Calls prog 148 #[v] w (RetB w (l ++ Crc.put (Crc.sum l))):=by
 have hlen:=h.len;have hl:=h.small;have hsum:=Crc.sum_lt l;have hmk:=zl4 (l.length:Int) ((l.length:Int) + 4) (by omega) (by omega) (by omega);rw [show ((l.length:Int) + 4).toNat=l.length + 4 from by omega,show (l.length:Int).toNat=l.length from by omega] at hmk;go_enter func148,ntmps148;have h1:=h.alloc (.cells (za6 (List.replicate (l.length + 4) 0)).toArray 5);have hbel:=(Below.refl w.heap.size w).alloc l_ (.cells (za6 (List.replicate (l.length + 4) 0)).toArray 5);have hg:=h_ (heap_alloc_new w (.cells (za6 (List.replicate (l.length + 4) 0)).toArray 5));go_wp2_with ((with_reducible refine zsH (some ⟨w.heap.size,0,none⟩) l.length (l.length + 4) ?hd v l ?hs h1 ?hn w.heap.size 0 (List.replicate (l.length + 4) 0) hg.o ?hdp ?hfit w.heap.size w hbel l_ ?_))
 case hd=>rfl
 case hs=>rfl
 case hn=>exact l_
 case hfit=>simp
 intro w1 HW1 hb1;have ho1:=zyJ HW1 (Nat.le_refl w.heap.size) hl;clear HW1 h1 hg hbel;obtain ⟨v1,hv1⟩:=nm_ ((Value.slice (some ⟨w.heap.size,0,none⟩) l.length (l.length + 4)));rw [<- hv1] at ho1;go_wp2_with fail;refine (zrY _ _ _ (h.later hb1 l_)).mono ?_;rintro e w0 ⟨rfl,hb0⟩;replace hb1:=hb1.trans (hb0.mono hb1.size);replace ho1:=ho1.later hb0 l_;clear hb0;go_wp2_with fail;refine (zrZ _ hsum _).mono ?_;rintro e w2 ⟨v2,rfl,ho2,hb2⟩;have hb3:=hb1.trans (hb2.mono hb1.size);have ho3:=ho1.later hb2 l_;have hr2:=ho2.rd (by simp [Crc.put_length]);go_wp2_with (with_reducible refine wpl_append w.heap.size _ l ?hs ho3 _ (Crc.put (Crc.sum l)) ?hx hr2 ?hn ?hbase w.heap.size w hb3 l_ ?_)
 case hs=>rw [hv1];rfl
 case hx=>rfl
 case hn=>simp [Crc.put_length];omega
 case hbase=>exact hb3.size
 intro v4 w4 ho4 hb4 _;go_wp2;go_ret;exact ⟨_,rfl,ho4,hb4⟩
