/- -/
import Derived.Test.YtlapgdocpndfiaaGreatDoorWCrcW
set_option maxHeartbeats 4000000
set_option linter.unusedVariables false
set_option linter.unusedSimpArgs false
set_option maxRecDepth 1000000
namespace Go.Proofs.YtlapgdocpndfiaaGreatDoor
open _root_.Go.Proofs.Tryz
open Go.RowKit
/- -/
open Go.Shelf
def WrO (w:World) (cs:List Col) (e:Ending) (w':World):Prop :=
 ∃ v,e=.returned (.tuple #[v,.int .i64 (errS cs:Nat)])/\Below w.heap.size w w'/\((errS cs≠0/\v=.slice none 0 0)∨(errS cs=0/\Own w' w.heap.size v (wrS cs)))
theorem zoF (v:Value) (cs:List ColB) (w:World) (h:RdC w v cs) (hC:CS cs) (hT:Tabs w) :
  Calls prog 107 #[v] w (WrO w (colsL cs)):=by
 have hlen:=h.len;have hsm:=h.small;have hcd:=zm4 (colsL cs);by_cases h0:errS (colsL cs)=0
 ·have HZ:=h_ h0;obtain ⟨z1,z2,z3,z4⟩:=zb1 h0;rw [za3] at z1 z2;have HH:=h_ h;clear h h0;go_enter func107,ntmps107;go_wp2_with fail;refine (zaW v cs w HH.o hC hT).mono ?_;rintro e w1 ⟨rfl,hb⟩;rw [HZ.o];have HB1:=h_ hb;clear hb;go_wp2_with fail;refine (zcC (cs.length:Int) (by omega) (by omega) w1).mono ?_;rintro e w2 ⟨u,rfl,hO,hb⟩;rw [Int.toNat_natCast] at hO;have HO:=h_ (hO.base HB1.size);have HB2:=bT HB1 hb;clear hb hO;go_wp2;go_loopw [5,19] (fun a i wr=>∃ k:Nat,k<=cs.length/\i=.int .i64 k/\Hid (Below w.heap.size w wr)/\Hid (Own wr w.heap.size a (encU cs.length ++ zaU ((colsL cs).take k)))/\Hid ((encU cs.length ++ zaU ((colsL cs).take k)).length<=10 + 60 * k)) (fun _ i _=>cs.length - (intOf i).toNat)
  case atStart =>
   refine ⟨0,by omega,rfl,HB2,?_,h_ ?_⟩
   ·simpa [zaU] using HO
   have:=zaL cs.length (by omega);simpa [zaU] using this
  clear HO HB2;obtain ⟨k,hk,rfl,HB,HO,HLen⟩:=hrel;by_cases hlt:k < cs.length
  ·have hr:=HH.later HB.o l_;obtain ⟨b,o,hidx,hcell,hblk⟩:=hr.get hlt;obtain ⟨hc0,hc1⟩:=hcell _ hr;obtain ⟨hs1,hk1,hk2⟩:=hC.get hlt
   have hz:=z4 ((colsL cs).getD k default) (by
    rw [show (colsL cs).getD k default=(colsL cs)[k]'(by rw [za3];exact hlt) from by simp [List.getD,za3,hlt]]
    exact List.getElem_mem _)
   rw [zc9 hlt] at hz;have hws:=zqD (cs:=colsL cs) (k:=k) (by rw [za3];exact hlt);rw [zc9 hlt] at hws;rcases hcg:cs.getD k default with ⟨s,kd⟩
   rw [hcg] at hc0 hc1 hs1 hk1 hk2 hz hws;dsimp only at hc0 hc1 hs1 hk1 hk2;have hS:=zjF hs1;obtain ⟨l,hl⟩:=nm_ s.data.toList;rw [<- hl] at hS;have hz:l.length<=32/\0<=kd/\kd<=5:=(by rw [hl];exact hz);have hws:zaU ((colsL cs).take (k + 1))=(zaU ((colsL cs).take k) ++ encB l) ++ [UInt8.ofNat kd.toNat]:=(by rw [hl];exact hws);have HWS:=h_ hws;have HS:=h_ hS;clear hr hcell hcg hl hS hws hs1 z4;have HB1:=h_ (HB.alloc HB.size (.cells #[.string s,.int .i64 kd] 79));have HO1:=h_ (HO.alloc (.cells #[.string s,.int .i64 kd] 79));obtain ⟨N0,N1,N2⟩:=new1 wr (.cells #[.string s,.int .i64 kd] 79);obtain ⟨w3,hw3⟩:=nm_ (wr.alloc (.cells #[.string s,.int .i64 kd] 79));obtain ⟨bv,w4,hrun,hRd,hb⟩:=zhI HS.o w3;rw [hw3] at hrun;rw [<- hw3] at HB1 HO1 N1;have HB4:=bT HB1 hb;have HO4:=h_ (HO1.later hb l_);have Q4:=h_ (zE5 N1 hb);have HRd:=h_ hRd;clear N0 N1 N2 hb hRd hw3;go_wp2_with fail;refine (zg8 bv l w4 HRd.o).mono ?_;rintro e w5 ⟨y,rfl,hO5,hb⟩;have HB5:=bT HB4 hb;have HO5:=h_ (HO4.later hb l_);have Q5:=h_ (zE5 Q4.o hb);have hY:=hO5.rd (by have:=zaL l.length (by omega);unfold encB;simp;omega);have HY:=h_ hY;clear hb hO5 hY hrun hc0 hc1;go_wp2_with (with_reducible refine zaH w.heap.size _ _ ?hs HO5.o _ (encB l) ?hx HY.o ?hn ?hbase w.heap.size w HB5.o l_ ?_)
   case hs=>rfl
   case hx=>rfl
   case hn=>have:=zaL l.length (by omega);have:=HLen.o;unfold encB;simp at this ⊢;omega
   case hbase=>exact HB5.size
   intro v6 w6 hO6 hB6 hg6;have HO6:=h_ hO6;have HB6:=h_ hB6;have hlb:=fun j hj=>World.ownsRow.lt HO.o j hj;have q6:=(hg6.block wr.heap.size (Nat.lt_of_lt_of_le (Array.getElem?_eq_some_iff.1 Q5.o).1 l_) (fun hh=>by have:=(hlb _ hh.symm).2;omega)).trans Q5.o;have c1:=za1 (i:=1) q6 rfl;have hkn:kd.toNat < 256:=(by omega);clear hO6 hB6 hg6 hlb q6;have hbelA:Below w.heap.size w (w6.alloc (.cells #[.int .u8 kd] 5)):=HB6.alloc HB6.size _;have HbA:=h_ hbelA;clear hbelA;go_wp2_with (with_reducible refine zaH w.heap.size _ _ ?hs (HO6.o.alloc _) _ [UInt8.ofNat kd.toNat] ?hx (zDU w6 kd (by omega) (by omega)) ?hn ?hbase w.heap.size w HbA.o l_ ?_)
   case hs=>rfl
   case hx=>rfl
   case hn=>have:=zaL l.length (by omega);have:=HLen.o;unfold encB;simp at this ⊢;omega
   case hbase=>exact HbA.size
   intro v8 w8 hO8 hB8 hg8;have HO8:=h_ (show Own w8 w.heap.size v8 (encU cs.length ++ zaU ((colsL cs).take (k + 1))) by rw [HWS.o,<- List.append_assoc,<- List.append_assoc];exact hO8);have HB8:=h_ hB8
   have HL8:=h_ (show (encU cs.length ++ zaU ((colsL cs).take (k + 1))).length<=10 + 60 * (k + 1) by
    have h1:=zaL l.length (by omega);have h2:=HLen.o
    rw [HWS.o];unfold encB;simp at h2 ⊢;omega)
   clear hO8 hB8 hg8 c1;go_wp2;go_roundw
   case rel=>exact ⟨k + 1,by omega,by go_num,HB8,HO8,HL8⟩
   simp [intOf];omega
  obtain rfl:k=cs.length:=by omega
  have ht:(colsL cs).take cs.length=colsL cs:=List.take_of_length_le (by rw [za3];omega)
  have HO2:=h_ (show Own wr w.heap.size u5 (wrS (colsL cs)) by
   have:=HO.o
   rw [ht] at this
   unfold wrS;rw [za3];exact this)
  clear hlt ht;go_wp2;go_ret2;exact ⟨_,by rw [HZ.o];rfl,HB.o,.inr ⟨HZ.o,HO2.o⟩⟩
 have hne:(((errS (colsL cs):Nat):Int) != 0)=true:=by simp;omega
 obtain ⟨x,hx⟩:=nm_ (errS (colsL cs));rw [<- hx] at hne;have hck:=zaW v cs w h hC hT;rw [<- hx] at hck;have HX:=h_ hx;clear hx h;go_enter func107,ntmps107;go_wp2_with fail;refine hck.mono ?_;rintro e w1 ⟨rfl,hb⟩;have HB1:=h_ hb;clear hb hck;go_wp2;go_ret2;exact ⟨_,by rw [<- HX.o];rfl,HB1.o,.inl ⟨h0,rfl⟩⟩
/- -/
/- -/
