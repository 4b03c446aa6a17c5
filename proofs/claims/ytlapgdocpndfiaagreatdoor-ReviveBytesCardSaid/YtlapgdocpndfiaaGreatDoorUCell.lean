/- -/
import Derived.Lib.ValidLaws
import Derived.Lib.DecodeNEq
import Derived.Test.YtlapgdocpndfiaaGreatDoorShelf1
import Derived.Test.YtlapgdocpndfiaaGreatDoorUCmp
import Derived.Lib.Bytealg
import Derived.Test.YtlapgdocpndfiaaGreatDoorUBaseB
set_option maxHeartbeats 8000000
set_option linter.unusedVariables false
set_option linter.unusedSimpArgs false
set_option maxRecDepth 1000000
namespace Go.Proofs.YtlapgdocpndfiaaGreatDoor
open _root_.Go.Proofs.Tryz
open Go.Lib
theorem ztQ {b:Nat} (hb:b < 256):b / 64=2 ↔ ¬ (b < 128∨191 < b):=by omega
theorem zw7 (c:UInt8) (r:Bs) (h:194<=c.toNat/\c.toNat < 224) (ih:∀ r':Bs,r'.length<=r.length->validD r'=utf8 r'):validD (c :: r)=utf8 (c :: r):=by
 have hl:zbR c.toNat=some (1,c.toNat % 32,128):=by unfold zbR;rw [if_pos (by omega)]
 rw [validD_lead _ (by simp) (by simp;omega),zd4 (by omega) hl];simp only [List.getD_cons_zero,List.getD_cons_succ];rw [firstT_C2 h];rw [show accLo (2 / 16)=128 from by decide,show accHi (2 / 16)=191 from by decide,show (2 % 8:Nat)=2 from rfl];unfold checkN;rw [if_pos rfl]
 match r with
 | []=>simp [zbP]
 | b :: r' =>
  have hb:b.toNat < 256:=b.toNat_lt;simp only [List.getD_cons_zero,List.length_cons,zbP];by_cases h1:b.toNat / 64=2
  ·have h2:=(ztQ hb).1 h1;rw [if_neg (by omega),if_pos h1];simp only [List.drop_succ_cons,List.drop_zero];rw [show runeOK 128 (64 * (c.toNat % 32) + b.toNat % 64)=true from by unfold runeOK;simp;omega,Bool.true_and];exact ih r' (by simp)
  have h2:=fun h=>h1 ((ztQ hb).2 h);rw [if_pos (by omega),if_neg h1]
theorem zf5 (c:UInt8) (r:Bs) (lo hi ft:Nat) (h:224<=c.toNat/\c.toNat < 240) (hft:firstT c.toNat=ft) (h8:ft % 8=3) (hlo:accLo (ft / 16)=lo) (hhi:accHi (ft / 16)=hi)
  (hr:(lo=128/\hi=191/\c.toNat≠224/\c.toNat≠237)∨(lo=160/\hi=191/\c.toNat=224)∨(lo=128/\hi=159/\c.toNat=237)) (ih:∀ r':Bs,r'.length<=r.length->validD r'=utf8 r'):validD (c :: r)=utf8 (c :: r):=by
 have hl:zbR c.toNat=some (2,c.toNat % 16,2048):=by unfold zbR;rw [if_neg (by omega),if_pos (by omega)]
 rw [validD_lead _ (by simp) (by simp;omega),zd4 (by omega) hl];simp only [List.getD_cons_zero,List.getD_cons_succ];rw [hft,hlo,hhi,h8];unfold checkN;rw [if_neg (by decide),if_pos rfl]
 match r with
 | []=>simp [zbP]
 | [b] =>
  simp only [zbP,List.length_cons,List.length_nil];rw [if_pos (.inl (by omega))];by_cases h1:b.toNat / 64=2
  ·rw [if_pos h1]
  rw [if_neg h1]
 | b :: d :: r' =>
  have hb:b.toNat < 256:=b.toNat_lt;have hd:d.toNat < 256:=d.toNat_lt;simp only [List.getD_cons_zero,List.getD_cons_succ,List.length_cons,zbP];by_cases h1:b.toNat / 64=2
  ·by_cases h2:d.toNat / 64=2
   ·rw [if_pos h1,if_pos h2];simp only [List.drop_succ_cons,List.drop_zero];by_cases h3:b.toNat < lo∨hi < b.toNat
    ·rw [if_pos (by omega)];rw [show runeOK 2048 (64 * (64 * (c.toNat % 16) + b.toNat % 64) + d.toNat % 64)=false from by unfold runeOK;simp;omega,Bool.false_and]
    rw [if_neg (by omega)];rw [show runeOK 2048 (64 * (64 * (c.toNat % 16) + b.toNat % 64) + d.toNat % 64)=true from by unfold runeOK;simp;omega,Bool.true_and];exact ih r' (by simp;omega)
   rw [if_pos h1,if_neg h2,if_pos (by omega)]
  rw [if_neg h1,if_pos (by omega)]
theorem zgL (c:UInt8) (r:Bs) (lo hi ft:Nat) (h:240<=c.toNat/\c.toNat < 245) (hft:firstT c.toNat=ft) (h8:ft % 8=4) (hlo:accLo (ft / 16)=lo) (hhi:accHi (ft / 16)=hi)
  (hr:(lo=128/\hi=191/\c.toNat≠240/\c.toNat≠244)∨(lo=144/\hi=191/\c.toNat=240)∨(lo=128/\hi=143/\c.toNat=244)) (ih:∀ r':Bs,r'.length<=r.length->validD r'=utf8 r'):validD (c :: r)=utf8 (c :: r):=by
 have hl:zbR c.toNat=some (3,c.toNat % 8,65536):=by unfold zbR;rw [if_neg (by omega),if_neg (by omega),if_pos (by omega)]
 rw [validD_lead _ (by simp) (by simp;omega),zd4 (by omega) hl];simp only [List.getD_cons_zero,List.getD_cons_succ];rw [hft,hlo,hhi,h8];unfold checkN;rw [if_neg (by decide),if_neg (by decide),if_pos rfl]
 match r with
 | []=>simp [zbP]
 | [b] =>
  simp only [zbP,List.length_cons,List.length_nil];rw [if_pos (.inl (by omega))];by_cases h1:b.toNat / 64=2
  ·rw [if_pos h1]
  rw [if_neg h1]
 | [b,d] =>
  simp only [zbP,List.length_cons,List.length_nil];rw [if_pos (.inl (by omega))];by_cases h1:b.toNat / 64=2
  ·by_cases h2:d.toNat / 64=2
   ·rw [if_pos h1,if_pos h2]
   rw [if_pos h1,if_neg h2]
  rw [if_neg h1]
 | b :: d :: g :: r' =>
  have hb:b.toNat < 256:=b.toNat_lt;have hd:d.toNat < 256:=d.toNat_lt;have hg:g.toNat < 256:=g.toNat_lt;simp only [List.getD_cons_zero,List.getD_cons_succ,List.length_cons,zbP];by_cases h1:b.toNat / 64=2
  ·by_cases h2:d.toNat / 64=2
   ·by_cases h4:g.toNat / 64=2
    ·rw [if_pos h1,if_pos h2,if_pos h4];simp only [List.drop_succ_cons,List.drop_zero];by_cases h3:b.toNat < lo∨hi < b.toNat
     ·rw [if_pos (by omega)];rw [show runeOK 65536 (64 * (64 * (64 * (c.toNat % 8) + b.toNat % 64) + d.toNat % 64) + g.toNat % 64)=false from by unfold runeOK;simp;omega,Bool.false_and]
     rw [if_neg (by omega)];rw [show runeOK 65536 (64 * (64 * (64 * (c.toNat % 8) + b.toNat % 64) + d.toNat % 64) + g.toNat % 64)=true from by unfold runeOK;simp;omega,Bool.true_and];exact ih r' (by simp;omega)
    rw [if_pos h1,if_pos h2,if_neg h4,if_pos (by omega)]
   rw [if_pos h1,if_neg h2,if_pos (by omega)]
  rw [if_neg h1,if_pos (by omega)]
theorem zfT:∀ (k:Nat) (l:Bs),l.length<=k->validD l=utf8 l
 | _,[],_=>by rw [validD_nil,ziB]
 | 0,c :: r,h=>by simp at h
 | k + 1,c :: r,h=>by
  have hk:r.length<=k:=by simpa using h
  have ih:∀ r':Bs,r'.length<=r.length->validD r'=utf8 r':=fun r' hr=>zfT k r' (by omega)
  have hc:c.toNat < 256:=c.toNat_lt
  by_cases h0:c.toNat < 128
  ·rw [validD_cons c r h0,zsL h0];exact ih r l_
  ·by_cases h1:c.toNat < 194
   ·rw [validD_lead _ (by simp) (by simp;omega),ziY (by omega) (by unfold zbR;rw [if_neg (by omega),if_neg (by omega),if_neg (by omega)])]
    simp only [List.getD_cons_zero]
    rw [show firstT c.toNat=241 from by simp [firstT,show ¬ c.toNat < 128 by omega,h1]]
    rfl
   ·by_cases h2:c.toNat < 224
    ·exact zw7 c r ⟨by omega,h2⟩ ih
    ·by_cases h3:c.toNat < 240
     ·by_cases e0:c.toNat=224
      ·exact zf5 c r 160 191 19 ⟨by omega,h3⟩ (firstT_E0 e0) rfl (by decide) (by decide) (.inr (.inl ⟨rfl,rfl,e0⟩)) ih
      ·by_cases e1:c.toNat=237
       ·exact zf5 c r 128 159 35 ⟨by omega,h3⟩ (firstT_ED e1) rfl (by decide) (by decide) (.inr (.inr ⟨rfl,rfl,e1⟩)) ih
       ·exact zf5 c r 128 191 3 ⟨by omega,h3⟩ (firstT_E1 (by omega)) rfl (by decide) (by decide) (.inl ⟨rfl,rfl,e0,e1⟩) ih
     ·by_cases h4:c.toNat < 245
      ·by_cases e0:c.toNat=240
       ·exact zgL c r 144 191 52 ⟨by omega,h4⟩ (firstT_F0 e0) rfl (by decide) (by decide) (.inr (.inl ⟨rfl,rfl,e0⟩)) ih
       ·by_cases e1:c.toNat=244
        ·exact zgL c r 128 143 68 ⟨by omega,h4⟩ (firstT_F4 e1) rfl (by decide) (by decide) (.inr (.inr ⟨rfl,rfl,e1⟩)) ih
        ·exact zgL c r 128 191 4 ⟨by omega,h4⟩ (firstT_F1 (by omega)) rfl (by decide) (by decide) (.inl ⟨rfl,rfl,e0,e1⟩) ih
      ·rw [validD_lead _ (by simp) (by simp;omega),ziY (by omega) (by unfold zbR;rw [if_neg (by omega),if_neg (by omega),if_neg (by omega)])]
       simp only [List.getD_cons_zero]
       rw [show firstT c.toNat=241 from by unfold firstT;rw [if_neg (by omega),if_neg (by omega),if_neg (by omega),if_neg (by omega),if_neg (by omega),if_neg (by omega),if_neg (by omega),if_neg (by omega),if_neg (by omega),if_neg (by omega)]]
       rfl
theorem zu1 (l:Bs):validD l=utf8 l:=zfT l.length l l_
/- -/
open Go.RowKit Go.Shelf
def Tabs (w:World):Prop:=Lib.Utf8Tabs (Tryz.laysValid_ren.g 3) (Tryz.laysValid_ren.g 4) w
theorem Tabs.later {w w':World} (h:Tabs w) (hb:Below w.heap.size w w'):Tabs w':=Utf8Tabs_below h hb
theorem RdS.dl {s:ByteArray} {l:Bs} (h:RdS s l):s.data.toList=l:=by rw [h.eq]
theorem zpB (s:ByteArray) (l:Bs) (w:World) (h:RdS s l) (hT:Tabs w) :
  Calls prog 255 #[.string s] w fun e w'=>e=.returned (.bool (utf8 l))/\Below w.heap.size w w':=by
 have c:Calls prog 255 #[.string s] w _:=Any.utf8_ValidString Tryz.laysValid s w (by rw [h.eq];have:=h.small;simp [ByteArray.size];omega) hT;rw [h.dl,zu1] at c;exact c
theorem zjO (s t:ByteArray) (l m:Bs) (w:World) (hs:RdS s l) (ht:RdS t m) :
  Calls prog 185 #[.string s,.string t] w fun e w'=>e=.returned (.int .i64 (Lib.compareBytes l m))/\w'=w:=by
 have c:Calls prog 185 #[.string s,.string t] w _:=Any.strings_Compare Tryz.laysCompare s t w;rw [hs.dl,ht.dl] at c;exact c
def isOfC (kind:Int) (num:Nat) (l:Bs):Bool :=
 if kind=3 then decide (num=0) else if kind=4 then decide (num=0) && utf8 l else if kind=2 then l.isEmpty && decide (num<=1) else l.isEmpty
theorem zzF (kind:Int) (hk:0<=kind/\kind<=5) (num:Nat) (s:ByteArray) (l:Bs) (w:World) (h:RdS s l) (hT:Tabs w) :
  Calls prog 228 #[.int .i64 kind,cellV num s] w fun e w'=>e=.returned (.bool (isOfC kind num l))/\Below w.heap.size w w':=by
 have hne:s.toList.isEmpty=l.isEmpty:=by rw [h.toList]
 have HB:Below w.heap.size w (w.alloc (.cells #[.int .u64 (num:Int),.string s] 82)):=(Below.refl _ _).alloc l_ _;unfold cellV;obtain rfl | rfl | rfl | rfl | rfl | rfl:kind=0∨kind=1∨kind=2∨kind=3∨kind=4∨kind=5:=by omega
 ·rw [show isOfC 0 num l=l.isEmpty from rfl];cases hl:l.isEmpty with
  | true =>
   rw [hl] at hne;go_enter func228,ntmps228;go_wp2;go_ret;exact ⟨rfl,HB⟩
  | false =>
   rw [hl] at hne;go_enter func228,ntmps228;go_wp2;go_ret;exact ⟨rfl,HB⟩
 ·rw [show isOfC 1 num l=l.isEmpty from rfl];cases hl:l.isEmpty with
  | true =>
   rw [hl] at hne;go_enter func228,ntmps228;go_wp2;go_ret;exact ⟨rfl,HB⟩
  | false =>
   rw [hl] at hne;go_enter func228,ntmps228;go_wp2;go_ret;exact ⟨rfl,HB⟩
 ·rw [show isOfC 2 num l=(l.isEmpty && decide (num<=1)) from rfl];cases hl:l.isEmpty with
  | true =>
   rw [hl] at hne;by_cases h1:num<=1
   ·have hd:decide ((num:Int)<=1)=true:=decide_eq_true (by omega);rw [decide_eq_true h1];go_enter func228,ntmps228;go_wp2;go_ret;exact ⟨rfl,HB⟩
   have hd:decide ((num:Int)<=1)=false:=decide_eq_false (by omega);rw [decide_eq_false h1];go_enter func228,ntmps228;go_wp2;go_ret;exact ⟨rfl,HB⟩
  | false =>
   rw [hl] at hne;go_enter func228,ntmps228;go_wp2;go_ret;exact ⟨rfl,HB⟩
 ·rw [show isOfC 3 num l=decide (num=0) from rfl];by_cases h1:num=0
  ·subst h1;go_enter func228,ntmps228;go_wp2;go_ret;exact ⟨rfl,HB⟩
  have hd:((num:Int) == 0)=false:=by simp;omega
  rw [decide_eq_false h1];go_enter func228,ntmps228;go_wp2;go_ret;exact ⟨rfl,HB⟩
 ·rw [show isOfC 4 num l=(decide (num=0) && utf8 l) from rfl];by_cases h1:num=0
  ·subst h1;rw [show decide ((0:Nat)=0)=true from rfl,Bool.true_and];have c:=zpB s l _ h (hT.later HB);cases hu:utf8 l with
   | true =>
    rw [hu] at c;go_enter func228,ntmps228;go_wp2_with fail;refine c.mono ?_;rintro e w1 ⟨rfl,hb⟩;have HB2:=HB.trans (hb.mono HB.size);clear hb HB hu;go_wp2;go_ret;exact ⟨rfl,HB2⟩
   | false =>
    rw [hu] at c;go_enter func228,ntmps228;go_wp2_with fail;refine c.mono ?_;rintro e w1 ⟨rfl,hb⟩;have HB2:=HB.trans (hb.mono HB.size);clear hb HB hu;go_wp2;go_ret;exact ⟨rfl,HB2⟩
  have hd:((num:Int) == 0)=false:=by simp;omega
  rw [decide_eq_false h1];go_enter func228,ntmps228;go_wp2;go_ret;exact ⟨rfl,HB⟩
 rw [show isOfC 5 num l=l.isEmpty from rfl];cases hl:l.isEmpty with
 | true =>
  rw [hl] at hne;go_enter func228,ntmps228;go_wp2;go_ret;exact ⟨rfl,HB⟩
 | false =>
  rw [hl] at hne;go_enter func228,ntmps228;go_wp2;go_ret;exact ⟨rfl,HB⟩
theorem zfL (kind:Int) (num:Nat) (l:Bs) (hk:0<=kind/\kind<=5):checkC kind num l=if isOfC kind num l=true then (if 256 < l.length then 7 else 0) else 11:=by
 unfold checkC;rw [if_neg (by omega)];obtain rfl | rfl | rfl | rfl | rfl | rfl:kind=0∨kind=1∨kind=2∨kind=3∨kind=4∨kind=5:=by omega
 ·rw [show isOfC 0 num l=l.isEmpty from rfl];cases l <;> simp
 ·rw [show isOfC 1 num l=l.isEmpty from rfl];cases l <;> simp
 ·rw [show isOfC 2 num l=(l.isEmpty && decide (num<=1)) from rfl];cases l with
  | nil=>by_cases h:num<=1 <;> simp [h] <;> omega
  | cons a r=>simp
 ·rw [show isOfC 3 num l=decide (num=0) from rfl];by_cases h:num=0 <;> simp [h]
 ·rw [show isOfC 4 num l=(decide (num=0) && utf8 l) from rfl];by_cases h:num=0 <;> cases hu:utf8 l <;> simp [h]
 rw [show isOfC 5 num l=l.isEmpty from rfl];cases l <;> simp
def zcA:Nat:=max (Tryz.laysValid_ren.g 3) (Tryz.laysValid_ren.g 4) + 1
theorem zmT {w:World} (h:Tabs w):zcA<=w.heap.size:=by
 have g3:=World.block_lt_of_cell? w _ (h.1 0 (by omega));have g4:=World.block_lt_of_cell? w _ (h.2 0 (by omega)).1;simp only at g3 g4;unfold zcA;omega
theorem zfY {w w':World} (h:Tabs w) (hk:∀ j,j < zcA->w'.heap[j]?=w.heap[j]?):Tabs w':=by
 have g3:Tryz.laysValid_ren.g 3 < zcA:=by unfold zcA;omega
 have g4:Tryz.laysValid_ren.g 4 < zcA:=by unfold zcA;omega
 exact ⟨fun c hc=>(World.cell?_of_block (hk _ g3)).trans (h.1 c hc),fun i hi=>⟨(World.cell?_of_block (hk _ g4)).trans (h.2 i hi).1,(World.cell?_of_block (hk _ g4)).trans (h.2 i hi).2⟩⟩
theorem zFJ {w w':World} {b:Nat} {o:Obj} (h:w.heap[b]?=some o) (hb:Below w.heap.size w w'):w'.heap[b]?=some o:=by
 have hlt:b < w.heap.size:=by
  rcases Nat.lt_or_ge b w.heap.size with h' | h'
  ·exact h'
  rw [Array.getElem?_eq_none h'] at h;cases h
 exact (hb.block b hlt).trans h
theorem new1 (w:World) (x:Obj):(w.alloc x).heap.size=w.heap.size + 1/\(w.alloc x).heap[w.heap.size]?=some x/\Below w.heap.size w (w.alloc x) :=
 ⟨by simp,heap_alloc_new _ _,(Below.refl _ w).alloc l_ _⟩
theorem zcJ (kind:Int) (num:Nat) (s:ByteArray) (l:Bs) (w:World) (h:RdS s l) (hT:Tabs w) :
  Calls prog 180 #[.int .i64 kind,cellV num s] w fun e w'=>e=.returned (.int .i64 (checkC kind num l:Nat))/\Below w.heap.size w w':=by
 obtain ⟨N0,N1,N2⟩:=new1 w (.cells #[.int .u64 (num:Int),.string s] 82);obtain ⟨w0,hw0⟩:=nm_ (w.alloc (.cells #[.int .u64 (num:Int),.string s] 82));rw [<- hw0] at N0 N1 N2;have a0:=za1 (i:=0) N1 rfl;have a1:=za1 (i:=1) N1 rfl;have hcv:∀ n u,cellV n u=.agg #[.int .u64 (n:Int),.string u]:=fun _ _=>rfl;have hlen:=h.len;by_cases hk:0<=kind/\kind<=5
 ·have hC:=zfL kind num l hk;have hD:=zzF kind hk num s l w0 h (hT.later N2);go_enter func180,ntmps180;go_wp2_with fail;rw [<- hw0];refine (zkJ kind w0).mono ?_;rintro e w1 ⟨rfl,rfl⟩;rw [decide_eq_true hk];clear hw0;go_wp2_with fail;refine hD.mono ?_;rintro e w2 ⟨rfl,hb⟩;have HB:=h_ (N2.trans (hb.mono N2.size));have s1:=(hb.block _ (by omega)).trans N1;have b1:=za1 (i:=1) s1 rfl;clear hb N1 N2 a0 a1 hD s1;cases hi:isOfC kind num l with
  | false =>
   rw [hi] at hC;have HC:=h_ hC;clear hi hC;go_wp2;go_ret;exact ⟨by rw [HC.o];rfl,HB.o⟩
  | true =>
   rw [hi] at hC;by_cases hg:256 < l.length
   ·have hd:decide ((l.length:Int) > 256)=true:=decide_eq_true (by omega);rw [if_pos rfl,if_pos hg] at hC;have HC:=h_ hC;clear hi hC hg;go_wp2;go_ret;exact ⟨by rw [HC.o];rfl,HB.o⟩
   have hd:decide ((l.length:Int) > 256)=false:=decide_eq_false (by omega);rw [if_pos rfl,if_neg hg] at hC;have HC:=h_ hC;clear hi hC hg;go_wp2;go_ret;exact ⟨by rw [HC.o];rfl,HB.o⟩
 rw [show checkC kind num l=10 from by unfold checkC;rw [if_pos (by omega)]];go_enter func180,ntmps180;go_wp2_with fail;rw [<- hw0];refine (zkJ kind w0).mono ?_;rintro e w1 ⟨rfl,rfl⟩;rw [decide_eq_false hk];clear hw0;go_wp2;go_ret;exact ⟨rfl,N2⟩
/- -/
theorem zcQ:∀ (l m:Bs),Lib.compareBytes l m=if Op.bytesLess l m=true then -1 else if Op.bytesLess m l=true then 1 else 0
 | [],[]=>by simp [Lib.compareBytes,Op.bytesLess]
 | [],_ :: _=>by simp [Lib.compareBytes,Op.bytesLess]
 | _ :: _,[]=>by simp [Lib.compareBytes,Op.bytesLess]
 | a :: r,b :: t=>by
  have ih:=zcQ r t
  unfold Lib.compareBytes Op.bytesLess
  by_cases h1:a < b
  ·have h2:¬ b < a:=by simp only [UInt8.lt_iff_toNat_lt] at *;omega
   simp [h1,h2]
  ·by_cases h2:b < a
   ·have h3:a≠b:=fun e=>by subst e;exact h1 h2
    simp [h1,h2,h3]
   ·have e:a=b:=by
     have h3:¬ a.toNat < b.toNat:=by rw [<- UInt8.lt_iff_toNat_lt];exact h1
     have h4:¬ b.toNat < a.toNat:=by rw [<- UInt8.lt_iff_toNat_lt];exact h2
     exact UInt8.toNat_inj.1 (by omega)
    subst e
    simp [h1,ih]
theorem ze5 {w:World} {b:Nat} {c:Array Value} {t:TypeId} {i:Nat} {u:Value} (h:w.heap[b]?=some (.cells c t (0,0))) (hu:c[i]?=some u) (a:Ord.GW w.drew):a.val.cell? ⟨b,i,none⟩=some u:=by
 have hlt:b < w.heap.size:=by
  rcases Nat.lt_or_ge b w.heap.size with h' | h'
  ·exact h'
  rw [Array.getElem?_eq_none h'] at h;cases h
 exact za1 ((a.grew.block b hlt).trans h) hu
section
variable {x y:Nat} {l m:Bs}
theorem zeS {kind:Int} (h1:checkC kind x l=0) (h2:checkC kind y m=0):cmpC kind x l y m=if aheadK kind x l y m=true then -1 else if aheadK kind y m x l=true then 1 else 0:=by
 unfold cmpC;rw [if_neg (by simp [h1,h2])]
theorem zCY (h1:checkC 0 x l=0) (h2:checkC 0 y m=0):cmpC 0 x l y m=ordZ (wrap64 (x:Int)) (wrap64 (y:Int)):=by
 rw [zeS h1 h2];simp [aheadK,ordZ]
theorem zCX (h1:checkC 1 x l=0) (h2:checkC 1 y m=0):cmpC 1 x l y m=ordZ (x:Int) (y:Int):=by
 rw [zeS h1 h2];simp [aheadK,ordZ]
theorem zCW (h1:checkC 2 x l=0) (h2:checkC 2 y m=0):cmpC 2 x l y m=ordZ (x:Int) (y:Int):=by
 rw [zeS h1 h2];simp [aheadK,ordZ]
theorem zCV (h1:checkC 3 x l=0) (h2:checkC 3 y m=0):cmpC 3 x l y m=Lib.compareBytes l m:=by
 rw [zeS h1 h2,zcQ];rfl
theorem zCU (h1:checkC 4 x l=0) (h2:checkC 4 y m=0):cmpC 4 x l y m=Lib.compareBytes l m:=by
 rw [zeS h1 h2,zcQ];rfl
theorem zCT (h1:checkC 5 x l=0) (h2:checkC 5 y m=0):cmpC 5 x l y m=ordZ (tkey x + 9223372036854775808) (tkey y + 9223372036854775808):=by
 rw [zeS h1 h2];simp [aheadK,ordZ]
end
theorem zqB (kind:Int) (x y:Nat) (hx:x < 18446744073709551616) (hy:y < 18446744073709551616) (s t:ByteArray) (l m:Bs) (w:World) (hs:RdS s l) (ht:RdS t m) (hT:Tabs w) :
  Calls prog 126 #[.int .i64 kind,cellV x s,cellV y t] w fun e w'=>e=.returned (.int .i64 (cmpC kind x l y m))/\Below w.heap.size w w':=by
 obtain ⟨N0,N1,N2,N3⟩:=new2 w (.cells #[.int .u64 (x:Int),.string s] 82) (.cells #[.int .u64 (y:Int),.string t] 82);obtain ⟨w0,hw0⟩:=nm_ ((w.alloc (.cells #[.int .u64 (x:Int),.string s] 82)).alloc (.cells #[.int .u64 (y:Int),.string t] 82));rw [<- hw0] at N0 N1 N2 N3;have HB:=h_ N3;have a0:=za1 (i:=0) N1 rfl;have a1:=za1 (i:=1) N1 rfl;have hC:=zcJ kind x s l w0 hs (hT.later N3);have hDD:=fun (w1:World) (h1:Below w0.heap.size w0 w1)=>zcJ kind y t m w1 ht ((hT.later N3).later h1);have hcv:∀ n u,cellV n u=.agg #[.int .u64 (n:Int),.string u]:=fun _ _=>rfl;clear N3 hT;by_cases hcx:checkC kind x l=0
 ·by_cases hcy:checkC kind y m=0
  ·have hk6:=zdD hcx;obtain rfl | rfl | rfl | rfl | rfl | rfl:kind=0∨kind=1∨kind=2∨kind=3∨kind=4∨kind=5:=by omega
   ·rw [show cmpC 0 x l y m=ordZ (wrap64 (x:Int)) (wrap64 (y:Int)) from zCY hcx hcy];have HX:=h_ hcx;have HY:=h_ hcy;clear hcx hcy;go_enter func126,ntmps126;go_wp2_with fail;rw [<- hw0];clear hw0;refine hC.mono ?_;rintro e w1 ⟨rfl,hb1⟩;rw [HX.o];have s0:=(hb1.block _ (by omega)).trans N1;have s1:=(hb1.block _ (by omega)).trans N2;have b0:=za1 (i:=0) s1 rfl;have b1:=za1 (i:=1) s1 rfl;have HB1:=h_ (HB.trans (hb1.mono (by omega)));have hs1:=hb1.size;have hD:=hDD w1 hb1;clear hb1 N1 N2 hC;go_wp2_with fail;refine hD.mono ?_;rintro e w2 ⟨rfl,hb2⟩;rw [HY.o];have t0:=(hb2.block _ (by omega)).trans s0;have t1:=(hb2.block _ (by omega)).trans s1;have c0:=za1 (i:=0) t0 rfl;have c1:=za1 (i:=1) t0 rfl;have d0:=za1 (i:=0) t1 rfl;have d1:=za1 (i:=1) t1 rfl;have HB2:=bT HB1 hb2;have hs2:=hb2.size;clear hb2 s0 s1 b0 b1 hD hDD;go_wp2_with fail;have g0:=ze5 (i:=0) t0 rfl;have g1:=ze5 (i:=1) t0 rfl;have g2:=ze5 (i:=0) t1 rfl;have g3:=ze5 (i:=1) t1 rfl;refine OrdR.wp_region_ord Ord.way [(0,false),(2,false),(1,true),(3,true),(4,true),(5,false)] (by kernel_rfl) rfl (by kernel_rfl) (by kernel_rfl) (fun _ _ _ d _ h=>by cases d <;> exact h) ?_;iterate 2 (refine OrdR.ord_still rfl rfl (by kernel_rfl) (fun K hK=>?_);go_big_quiet_op;refine hK _ ?_;clear hK K)
    refine OrdR.ord_loud rfl (by kernel_rfl) (fun K hK=>?_);go_big_op;refine (zkK x hx s _).mono ?_;rintro e w3 ⟨rfl,hb3⟩;have hsd:w2.drew.heap.size=w2.heap.size:=rfl;have t3:=(hb3.block _ (by omega)).trans t1;have HB3:=h_ (HB2.drew.trans (hb3.mono HB2.drew.size));have d2:=za1 (i:=0) t3 rfl;have d3:=za1 (i:=1) t3 rfl;have hs3:=hb3.size;refine hK _ _ hb3 ?_;clear hb3;clear hK K;refine OrdR.ord_loud rfl (by kernel_rfl) (fun K hK=>?_);go_big_op;refine (zkK y hy t _).mono ?_;rintro e w4 ⟨rfl,hb4⟩;have HB4:=bT HB3 hb4;refine hK _ _ hb4 ?_;clear hb4;clear hK K;refine OrdR.ord_loud rfl (by kernel_rfl) (fun K hK=>?_);go_big_op;refine (zEI _ _ _).mono ?_;rintro e w5 ⟨rfl,rfl⟩;refine hK _ _ (Ord.Grew.refl _) ?_;clear hK K;refine OrdR.ord_still rfl rfl (by kernel_rfl) (fun K hK=>?_);go_big_quiet_op;refine hK _ ?_;clear hK K;refine OrdR.ord_nil ?_;go_wp2;go_ret;exact ⟨rfl,HB4.o⟩
   ·rw [show cmpC 1 x l y m=ordZ (x:Int) (y:Int) from zCX hcx hcy];have HX:=h_ hcx;have HY:=h_ hcy;clear hcx hcy;go_enter func126,ntmps126;go_wp2_with fail;rw [<- hw0];clear hw0;refine hC.mono ?_;rintro e w1 ⟨rfl,hb1⟩;rw [HX.o];have s0:=(hb1.block _ (by omega)).trans N1;have s1:=(hb1.block _ (by omega)).trans N2;have b0:=za1 (i:=0) s1 rfl;have b1:=za1 (i:=1) s1 rfl;have HB1:=h_ (HB.trans (hb1.mono (by omega)));have hs1:=hb1.size;have hD:=hDD w1 hb1;clear hb1 N1 N2 hC;go_wp2_with fail;refine hD.mono ?_;rintro e w2 ⟨rfl,hb2⟩;rw [HY.o];have t0:=(hb2.block _ (by omega)).trans s0;have t1:=(hb2.block _ (by omega)).trans s1;have c0:=za1 (i:=0) t0 rfl;have c1:=za1 (i:=1) t0 rfl;have d0:=za1 (i:=0) t1 rfl;have d1:=za1 (i:=1) t1 rfl;have HB2:=bT HB1 hb2;have hs2:=hb2.size;clear hb2 s0 s1 b0 b1 hD hDD;go_wp2_with fail;refine (zs4 _ _ _).mono ?_;rintro e w3 ⟨rfl,rfl⟩;go_wp2;go_ret;exact ⟨rfl,HB2.o⟩
   ·rw [show cmpC 2 x l y m=ordZ (x:Int) (y:Int) from zCW hcx hcy];have HX:=h_ hcx;have HY:=h_ hcy;clear hcx hcy;go_enter func126,ntmps126;go_wp2_with fail;rw [<- hw0];clear hw0;refine hC.mono ?_;rintro e w1 ⟨rfl,hb1⟩;rw [HX.o];have s0:=(hb1.block _ (by omega)).trans N1;have s1:=(hb1.block _ (by omega)).trans N2;have b0:=za1 (i:=0) s1 rfl;have b1:=za1 (i:=1) s1 rfl;have HB1:=h_ (HB.trans (hb1.mono (by omega)));have hs1:=hb1.size;have hD:=hDD w1 hb1;clear hb1 N1 N2 hC;go_wp2_with fail;refine hD.mono ?_;rintro e w2 ⟨rfl,hb2⟩;rw [HY.o];have t0:=(hb2.block _ (by omega)).trans s0;have t1:=(hb2.block _ (by omega)).trans s1;have c0:=za1 (i:=0) t0 rfl;have c1:=za1 (i:=1) t0 rfl;have d0:=za1 (i:=0) t1 rfl;have d1:=za1 (i:=1) t1 rfl;have HB2:=bT HB1 hb2;have hs2:=hb2.size;clear hb2 s0 s1 b0 b1 hD hDD;go_wp2_with fail;refine (zs4 _ _ _).mono ?_;rintro e w3 ⟨rfl,rfl⟩;go_wp2;go_ret;exact ⟨rfl,HB2.o⟩
   ·rw [show cmpC 3 x l y m=Lib.compareBytes l m from zCV hcx hcy];have HX:=h_ hcx;have HY:=h_ hcy;clear hcx hcy;go_enter func126,ntmps126;go_wp2_with fail;rw [<- hw0];clear hw0;refine hC.mono ?_;rintro e w1 ⟨rfl,hb1⟩;rw [HX.o];have s0:=(hb1.block _ (by omega)).trans N1;have s1:=(hb1.block _ (by omega)).trans N2;have b0:=za1 (i:=0) s1 rfl;have b1:=za1 (i:=1) s1 rfl;have HB1:=h_ (HB.trans (hb1.mono (by omega)));have hs1:=hb1.size;have hD:=hDD w1 hb1;clear hb1 N1 N2 hC;go_wp2_with fail;refine hD.mono ?_;rintro e w2 ⟨rfl,hb2⟩;rw [HY.o];have t0:=(hb2.block _ (by omega)).trans s0;have t1:=(hb2.block _ (by omega)).trans s1;have c0:=za1 (i:=0) t0 rfl;have c1:=za1 (i:=1) t0 rfl;have d0:=za1 (i:=0) t1 rfl;have d1:=za1 (i:=1) t1 rfl;have HB2:=bT HB1 hb2;have hs2:=hb2.size;clear hb2 s0 s1 b0 b1 hD hDD;go_wp2_with fail;refine (zjO s t l m _ hs ht).mono ?_;rintro e w3 ⟨rfl,rfl⟩;go_wp2;go_ret;exact ⟨rfl,HB2.o⟩
   ·rw [show cmpC 4 x l y m=Lib.compareBytes l m from zCU hcx hcy];have HX:=h_ hcx;have HY:=h_ hcy;clear hcx hcy;go_enter func126,ntmps126;go_wp2_with fail;rw [<- hw0];clear hw0;refine hC.mono ?_;rintro e w1 ⟨rfl,hb1⟩;rw [HX.o];have s0:=(hb1.block _ (by omega)).trans N1;have s1:=(hb1.block _ (by omega)).trans N2;have b0:=za1 (i:=0) s1 rfl;have b1:=za1 (i:=1) s1 rfl;have HB1:=h_ (HB.trans (hb1.mono (by omega)));have hs1:=hb1.size;have hD:=hDD w1 hb1;clear hb1 N1 N2 hC;go_wp2_with fail;refine hD.mono ?_;rintro e w2 ⟨rfl,hb2⟩;rw [HY.o];have t0:=(hb2.block _ (by omega)).trans s0;have t1:=(hb2.block _ (by omega)).trans s1;have c0:=za1 (i:=0) t0 rfl;have c1:=za1 (i:=1) t0 rfl;have d0:=za1 (i:=0) t1 rfl;have d1:=za1 (i:=1) t1 rfl;have HB2:=bT HB1 hb2;have hs2:=hb2.size;clear hb2 s0 s1 b0 b1 hD hDD;go_wp2_with fail;refine (zjO s t l m _ hs ht).mono ?_;rintro e w3 ⟨rfl,rfl⟩;go_wp2;go_ret;exact ⟨rfl,HB2.o⟩
   rw [show cmpC 5 x l y m=ordZ (tkey x + 9223372036854775808) (tkey y + 9223372036854775808) from zCT hcx hcy];have HX:=h_ hcx;have HY:=h_ hcy;clear hcx hcy;go_enter func126,ntmps126;go_wp2_with fail;rw [<- hw0];clear hw0;refine hC.mono ?_;rintro e w1 ⟨rfl,hb1⟩;rw [HX.o];have s0:=(hb1.block _ (by omega)).trans N1;have s1:=(hb1.block _ (by omega)).trans N2;have b0:=za1 (i:=0) s1 rfl;have b1:=za1 (i:=1) s1 rfl;have HB1:=h_ (HB.trans (hb1.mono (by omega)));have hs1:=hb1.size;have hD:=hDD w1 hb1;clear hb1 N1 N2 hC;go_wp2_with fail;refine hD.mono ?_;rintro e w2 ⟨rfl,hb2⟩;rw [HY.o];have t0:=(hb2.block _ (by omega)).trans s0;have t1:=(hb2.block _ (by omega)).trans s1;have c0:=za1 (i:=0) t0 rfl;have c1:=za1 (i:=1) t0 rfl;have d0:=za1 (i:=0) t1 rfl;have d1:=za1 (i:=1) t1 rfl;have HB2:=bT HB1 hb2;have hs2:=hb2.size;clear hb2 s0 s1 b0 b1 hD hDD;go_wp2_with fail;have g0:=ze5 (i:=0) t0 rfl;have g1:=ze5 (i:=1) t0 rfl;have g2:=ze5 (i:=0) t1 rfl;have g3:=ze5 (i:=1) t1 rfl;refine OrdR.wp_region_ord Ord.way [(0,false),(1,false),(3,false),(4,false),(2,true),(5,true),(6,true),(7,false)] (by kernel_rfl) rfl (by kernel_rfl) (by kernel_rfl) (fun _ _ _ d _ h=>by cases d <;> exact h) ?_;iterate 4 (refine OrdR.ord_still rfl rfl (by kernel_rfl) (fun K hK=>?_);go_big_quiet_op;refine hK _ ?_;clear hK K)
   refine OrdR.ord_loud rfl (by kernel_rfl) (fun K hK=>?_);go_big_op;refine (zqA x hx _).mono ?_;rintro e w3 ⟨rfl,rfl⟩;refine hK _ _ (Ord.Grew.refl _) ?_;clear hK K;refine OrdR.ord_loud rfl (by kernel_rfl) (fun K hK=>?_);go_big_op;refine (zqA y hy _).mono ?_;rintro e w4 ⟨rfl,rfl⟩;refine hK _ _ (Ord.Grew.refl _) ?_;clear hK K;refine OrdR.ord_loud rfl (by kernel_rfl) (fun K hK=>?_);go_big_op;refine (zs4 _ _ _).mono ?_;rintro e w5 ⟨rfl,rfl⟩;refine hK _ _ (Ord.Grew.refl _) ?_;clear hK K;refine OrdR.ord_still rfl rfl (by kernel_rfl) (fun K hK=>?_);go_big_quiet_op;refine hK _ ?_;clear hK K;refine OrdR.ord_nil ?_;go_wp2;go_ret;exact ⟨rfl,HB2.drew⟩
  rw [show cmpC kind x l y m=0 from by unfold cmpC;rw [if_pos (.inr hcy)]];have HX:=h_ hcx;obtain ⟨cy,hcye⟩:∃ cy,checkC kind y m=cy:=⟨_,rfl⟩;rw [hcye] at hcy hDD;have hne:((cy:Int) != 0)=true:=by simp;omega
  clear hcx hcye;go_enter func126,ntmps126;go_wp2_with fail;rw [<- hw0];clear hw0;refine hC.mono ?_;rintro e w1 ⟨rfl,hb1⟩;rw [HX.o];have s1:=(hb1.block _ (by omega)).trans N2;have b0:=za1 (i:=0) s1 rfl;have b1:=za1 (i:=1) s1 rfl;have HB1:=h_ (HB.trans (hb1.mono (by omega)));have hD:=hDD w1 hb1;clear hb1 N1 N2 hC hDD;go_wp2_with fail;refine hD.mono ?_;rintro e w2 ⟨rfl,hb2⟩;have HB2:=bT HB1 hb2;clear hb2 s1 b0 b1 hD;go_wp2;go_ret;exact ⟨rfl,HB2.o⟩
 rw [show cmpC kind x l y m=0 from by unfold cmpC;rw [if_pos (.inl hcx)]];obtain ⟨cx,hcxe⟩:∃ cx,checkC kind x l=cx:=⟨_,rfl⟩;rw [hcxe] at hcx hC;have hne:((cx:Int) != 0)=true:=by simp;omega
 clear hcxe hDD;go_enter func126,ntmps126;go_wp2_with fail;rw [<- hw0];clear hw0;refine hC.mono ?_;rintro e w1 ⟨rfl,hb1⟩;have HB1:=h_ (HB.trans (hb1.mono (by omega)));clear hb1 N1 N2 hC;go_wp2;go_ret;exact ⟨rfl,HB1.o⟩
/- -/
section
theorem zy6 (a b:Int):ordZ a b=-ordZ b a:=by unfold ordZ;split <;> split <;> first | rfl | (split <;> first | rfl | omega) | omega
theorem zy4 (a b:Int):ordZ a b=0 ↔ a=b:=by
 unfold ordZ;constructor
 ·intro h;split at h
  ·cases h
  split at h
  ·cases h
  omega
 rintro rfl;rw [if_neg (by omega),if_neg (by omega)]
theorem zDO (a b:Int):ordZ a b < 0 ↔ a < b:=by
 unfold ordZ;split
 ·simp;assumption
 split <;> simp <;> omega
theorem zy5 (a b:Int):0 < ordZ a b ↔ b < a:=by
 unfold ordZ;split
 ·simp;omega
 split <;> simp <;> omega
theorem zB4 (a b:Int):-1<=ordZ a b/\ordZ a b<=1:=by
 unfold ordZ;split
 ·decide
 split <;> decide
open _root_.Go.Lib in
theorem zzH:∀ l m:Bs,compareBytes l m=-compareBytes m l
 | [],[]=>rfl
 | [],_ :: _=>rfl
 | _ :: _,[]=>rfl
 | a :: r,b :: t=>by
  unfold compareBytes
  by_cases h1:a < b
  ·have h2:¬ b < a:=by simp only [UInt8.lt_iff_toNat_lt] at *;omega
   simp [h1,h2]
  ·by_cases h2:b < a
   ·simp [h1,h2]
   ·simp [h1,h2,zzH r t]
open _root_.Go.Lib in
theorem zzG:∀ l m:Bs,compareBytes l m=0 ↔ l=m
 | [],[]=>by simp [compareBytes]
 | [],_ :: _=>by simp [compareBytes]
 | _ :: _,[]=>by simp [compareBytes]
 | a :: r,b :: t=>by
  unfold compareBytes
  by_cases h1:a < b
  ·have h3:a≠b:=fun e=>by subst e;simp only [UInt8.lt_iff_toNat_lt] at h1;omega
   simp [h1,h3]
  ·by_cases h2:b < a
   ·have h3:a≠b:=fun e=>by subst e;exact h1 h2
    simp [h1,h2,h3]
   ·have e:a=b:=by
     simp only [UInt8.lt_iff_toNat_lt] at h1 h2
     exact UInt8.toNat_inj.1 (by omega)
    subst e
    simp [h1,zzG r t]
open _root_.Go.Lib in
theorem zCZ:∀ l m:Bs,-1<=compareBytes l m/\compareBytes l m<=1
 | [],[]=>by simp [compareBytes]
 | [],_ :: _=>by simp [compareBytes]
 | _ :: _,[]=>by simp [compareBytes]
 | a :: r,b :: t=>by
  unfold compareBytes
  split
  ·decide
  ·split
   ·decide
   ·exact zCZ r t
open _root_.Go.Lib in
theorem znS:∀ l m n:Bs,compareBytes l m<=0->compareBytes m n<=0->compareBytes l n<=0/\((compareBytes l m < 0∨compareBytes m n < 0)->compareBytes l n < 0)
 | [],[],[],_,_=>by simp [compareBytes]
 | [],[],_ :: _,_,_=>by simp [compareBytes]
 | [],_ :: _,[],_,h=>by simp [compareBytes] at h
 | [],_ :: _,_ :: _,_,_=>by simp [compareBytes]
 | _ :: _,[],_,h,_=>by simp [compareBytes] at h
 | _ :: _,_ :: _,[],_,h=>by simp [compareBytes] at h
 | a :: r,b :: t,c :: q,h1,h2=>by
  have IH:=_root_.Go.Lib.hid (znS r t q)
  unfold compareBytes at h1 h2 ⊢
  simp only [UInt8.lt_iff_toNat_lt] at h1 h2 ⊢
  by_cases k1:a.toNat < b.toNat
  ·by_cases k2:b.toNat < c.toNat
   ·rw [if_pos (by omega:a.toNat < c.toNat)];exact ⟨by decide,fun _=>by decide⟩
   ·rw [if_neg k2] at h2
    by_cases k3:c.toNat < b.toNat
    ·rw [if_pos k3] at h2;exact absurd h2 (by decide)
    ·rw [if_pos (by omega:a.toNat < c.toNat)];exact ⟨by decide,fun _=>by decide⟩
  ·rw [if_neg k1] at h1
   by_cases k4:b.toNat < a.toNat
   ·rw [if_pos k4] at h1;exact absurd h1 (by decide)
   ·rw [if_neg k4] at h1
    by_cases k2:b.toNat < c.toNat
    ·rw [if_pos (by omega:a.toNat < c.toNat)];exact ⟨by decide,fun _=>by decide⟩
    ·rw [if_neg k2] at h2
     by_cases k3:c.toNat < b.toNat
     ·rw [if_pos k3] at h2;exact absurd h2 (by decide)
     ·rw [if_neg k3] at h2
      rw [if_neg k1,if_neg k4,if_neg k2,if_neg k3,if_neg (by omega:¬ a.toNat < c.toNat),if_neg (by omega:¬ c.toNat < a.toNat)]
      exact IH.o h1 h2
end
section
variable {kind:Int} {x y z:Nat} {l m n:Bs}
theorem zq8 (h:checkC kind x l=0) (hk:¬ (kind=3∨kind=4)):l=[]:=by
 have h6:=zdD h;rw [zfL kind x l h6] at h;obtain rfl | rfl | rfl | rfl | rfl | rfl:kind=0∨kind=1∨kind=2∨kind=3∨kind=4∨kind=5:=by omega
 all_goals first | (exfalso;simp at hk;done) | (cases l with
  | nil=>rfl
  | cons a r=>simp [isOfC] at h)
theorem zq7 (h:checkC kind x l=0) (hk:kind=3∨kind=4):x=0:=by
 have h6:=zdD h;rw [zfL kind x l h6] at h;rcases hk with rfl | rfl
 ·by_cases hx:x=0
  ·exact hx
  simp [isOfC,hx] at h
 by_cases hx:x=0
 ·exact hx
 simp [isOfC,hx] at h
def keyC (kind:Int) (x:Nat):Int:=if kind=0 then wrap64 (x:Int) else if kind=5 then tkey x + 9223372036854775808 else (x:Int)
theorem keyC_inj (hx:x < 18446744073709551616) (hy:y < 18446744073709551616) (h:keyC kind x=keyC kind y):x=y:=by
 unfold keyC at h;by_cases h0:kind=0
 ·rw [if_pos h0,if_pos h0] at h;unfold wrap64 at h;omega
 rw [if_neg h0,if_neg h0] at h;by_cases h5:kind=5
 ·rw [if_pos h5,if_pos h5] at h;unfold tkey at h;split at h <;> split at h <;> omega
 rw [if_neg h5,if_neg h5] at h;omega
theorem ziO (hk:¬ (kind=3∨kind=4)) (h1:checkC kind x l=0) (h2:checkC kind y m=0):cmpC kind x l y m=ordZ (keyC kind x) (keyC kind y):=by
 have h6:=zdD h1;have e0:∀ q:Nat,keyC 0 q=wrap64 (q:Int):=fun q=>by unfold keyC;rw [if_pos rfl]
 have e1:∀ q:Nat,keyC 1 q=(q:Int):=fun q=>by unfold keyC;rw [if_neg (by decide),if_neg (by decide)]
 have e2:∀ q:Nat,keyC 2 q=(q:Int):=fun q=>by unfold keyC;rw [if_neg (by decide),if_neg (by decide)]
 have e5:∀ q:Nat,keyC 5 q=tkey q + 9223372036854775808:=fun q=>by unfold keyC;rw [if_neg (by decide),if_pos rfl]
 obtain rfl | rfl | rfl | rfl | rfl | rfl:kind=0∨kind=1∨kind=2∨kind=3∨kind=4∨kind=5:=by omega
 ·rw [e0,e0];exact zCY h1 h2
 ·rw [e1,e1];exact zCX h1 h2
 ·rw [e2,e2];exact zCW h1 h2
 ·simp at hk
 ·simp at hk
 rw [e5,e5];exact zCT h1 h2
theorem ziN (hk:kind=3∨kind=4) (h1:checkC kind x l=0) (h2:checkC kind y m=0):cmpC kind x l y m=Lib.compareBytes l m:=by
 rcases hk with rfl | rfl
 ·exact zCV h1 h2
 exact zCU h1 h2
theorem zzC (hx:x < 18446744073709551616) (hy:y < 18446744073709551616) (h1:checkC kind x l=0) (h2:checkC kind y m=0) (h3:checkC kind z n=0) :
  cmpC kind x l y m=-cmpC kind y m x l/\(cmpC kind x l y m=0 ↔ x=y/\l=m)/\(-1<=cmpC kind x l y m/\cmpC kind x l y m<=1) /\
  (cmpC kind x l y m<=0->cmpC kind y m z n<=0->cmpC kind x l z n<=0)/\(cmpC kind x l y m < 0->cmpC kind y m z n < 0->cmpC kind x l z n < 0):=by
 by_cases hk:kind=3∨kind=4
 ·rw [ziN hk h1 h2,ziN hk h2 h1,ziN hk h2 h3,ziN hk h1 h3];have hx0:=zq7 h1 hk;have hy0:=zq7 h2 hk;refine ⟨zzH l m,?_,zCZ l m,fun a b=>(znS l m n a b).1,fun a b=>(znS l m n (by omega) (by omega)).2 (.inl a)⟩;rw [zzG];constructor
  ·intro h;exact ⟨by omega,h⟩
  intro h;exact h.2
 rw [ziO hk h1 h2,ziO hk h2 h1,ziO hk h2 h3,ziO hk h1 h3];have hl:=zq8 h1 hk;have hm:=zq8 h2 hk;refine ⟨zy6 _ _,?_,zB4 _ _,fun a b=>?_,fun a b=>?_⟩
 ·rw [zy4];constructor
  ·intro h;exact ⟨keyC_inj hx hy h,by rw [hl,hm]⟩
  rintro ⟨rfl,_⟩;rfl
 ·have a1:¬ 0 < ordZ (keyC kind x) (keyC kind y):=by omega
  have b1:¬ 0 < ordZ (keyC kind y) (keyC kind z):=by omega
  rw [zy5] at a1 b1;have:¬ 0 < ordZ (keyC kind x) (keyC kind z):=by rw [zy5];omega
  omega
 rw [zDO] at *;omega
end
/- -/
abbrev CP:=ColB × CellB
def chk (x:CP):Nat:=checkC x.1.2 x.2.1 x.2.2.data.toList
def errP:List CP->Nat
 | []=>0
 | x :: r=>if chk x≠0 then chk x else errP r
theorem zfG:∀ (l m:List CP),errP (l ++ m)=if errP l≠0 then errP l else errP m
 | [],m=>by simp [errP]
 | x :: r,m=>by
  rw [List.cons_append,errP,zfG r m,errP]
  by_cases h:chk x=0
  ·have h':¬ chk x≠0:=fun h9=>h9 h
   rw [if_neg h',if_neg h']
  ·rw [if_pos h,if_pos h,if_pos h]
theorem zjZ (l:List CP) (x:CP) (h:errP l=0):errP (l ++ [x])=chk x:=by
 rw [zfG,h,if_neg (by simp),errP,errP];by_cases h:chk x=0
 ·rw [if_neg (by simpa using h),h]
 rw [if_pos h]
theorem zpR {l:List CP} {k:Nat} (h:errP (l.take k)≠0):errP l=errP (l.take k):=by
 have:=zfG (l.take k) (l.drop k);rw [List.take_append_drop,if_pos h] at this;exact this
theorem zq9 (kind:Int) (n:Nat) (l:Bs):checkC kind n l<=11:=by
 unfold checkC
 repeat' split
 all_goals omega
theorem zm2:∀ l:List CP,errP l<=11
 | []=>by simp [errP]
 | x :: r=>by
  rw [errP]
  split
  ·exact zq9 _ _ _
  ·exact zm2 r
theorem zpQ {l:List CP} (h:errP l=0):∀ x ∈ l,chk x=0:=by
 induction l with
 | nil=>intro x hx;simp at hx
 | cons a r ih =>
  rw [errP] at h;by_cases ha:chk a=0
  ·rw [if_neg (by simpa using ha)] at h;intro x hx;rcases List.mem_cons.1 hx with rfl | hx
   ·exact ha
   exact ih h x hx
  rw [if_pos ha] at h;exact absurd h ha
theorem zz1 {l:List CP} (h:∀ x ∈ l,chk x=0):errP l=0:=by
 induction l with
 | nil=>rfl
 | cons a r ih =>
  rw [errP,if_neg (by simpa using h a (by simp))];exact ih fun x hx=>h x (by simp [hx])
def errC (cs:List ColB) (rs:List CellB):Nat:=if rs.length=cs.length then errP (cs.zip rs) else 2
theorem zvF (cs:List ColB) (rs:List CellB):errC cs rs<=11:=by
 unfold errC;split
 ·exact zm2 _
 omega
