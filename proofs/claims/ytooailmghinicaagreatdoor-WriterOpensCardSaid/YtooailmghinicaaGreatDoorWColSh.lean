/- -/
import Derived.Test.YtooailmghinicaaGreatDoorWColM
set_option maxHeartbeats 16000000
set_option linter.unusedVariables false
set_option linter.unusedSimpArgs false
set_option maxRecDepth 1000000
namespace Go.Proofs.YtooailmghinicaaGreatDoor
open _root_.Go.Proofs.Tryz
open Go.RowKit
theorem shr_at {l m:Bs} {k:Nat} (hl:k<=l.length) (hm:k<=m.length) (ht:l.take k=m.take k) (h:k < l.length->k < m.length->l.getD k 0≠m.getD k 0):shr l m=k:=shr_eq hl hm ht h
theorem shr_next {l m:Bs} {k:Nat} (hl:k < l.length) (hm:k < m.length) (ht:l.take k=m.take k) (h:l.getD k 0=m.getD k 0):l.take (k + 1)=m.take (k + 1):=by
 rw [List.take_succ_eq_append_getElem hl,List.take_succ_eq_append_getElem hm,ht];simp [List.getD,hl,hm] at h;rw [h]
theorem zgV (s t:ByteArray) (l m:Bs) (w:World) (h1:RdS s l) (h2:RdS t m) :
  Calls prog 214 #[.string s,.string t] w fun e w'=>e=.returned (.int .i64 (shr l m:Nat))/\Below w.heap.size w w':=by
 have hlen1:=h1.len;have hlen2:=h2.len;have hi1:=h1.idx;have hi2:=h2.idx;have hs1:=h1.small;have hs2:=h2.small;have hb0:=h_ (Below.refl w.heap.size w);obtain ⟨p,hp⟩:=nm_ l.length;obtain ⟨q,hq⟩:=nm_ m.length;rw [<- hp] at hlen1 hs1 hi1;rw [<- hq] at hlen2 hs2 hi2;have HP:=h_ hp;have HQ:=h_ hq;clear hp hq h1 h2;go_enter func214,ntmps214;go_wp2;go_loopw [5] (fun i wr=>∃ k:Nat,k<=p/\k<=q/\i=.int .i64 k/\Hid (l.take k=m.take k)/\Hid (Below w.heap.size w wr)) (fun i _=>p - (intOf i).toNat)
 case atStart=>exact ⟨0,by omega,by omega,rfl,h_ rfl,hb0⟩
 obtain ⟨k,hk1,hk2,rfl,HT,HB⟩:=hrel;clear hb0;have HE:=h_ (fun h=>shr_at (l:=l) (m:=m) (k:=k) (by rw [<- HP.o];exact hk1) (by rw [<- HQ.o];exact hk2) HT.o h);by_cases h1:k < p
 ·by_cases h2:k < q
  ·have HN:=h_ (fun h=>shr_next (l:=l) (m:=m) (k:=k) (by rw [<- HP.o];exact h1) (by rw [<- HQ.o];exact h2) HT.o h);have x1:=hi1 k h1;have x2:=hi2 k h2;obtain ⟨c,hc⟩:∃ c:Nat,at8 l k=(c:Int):=⟨(l.getD k 0).toNat,rfl⟩;obtain ⟨d,hd⟩:∃ d:Nat,at8 m k=(d:Int):=⟨(m.getD k 0).toNat,rfl⟩;have hcc:(l.getD k 0).toNat=c:=(by unfold at8 at hc;omega);have hdd:(m.getD k 0).toNat=d:=(by unfold at8 at hd;omega);have HC:=h_ hcc;have HD:=h_ hdd;rw [hc] at x1;rw [hd] at x2;clear hcc hdd hc hd hi1 hi2;by_cases he:c=d
   ·have HN2:=h_ (HN.o (UInt8.toNat_inj.1 (by rw [HC.o,HD.o,he])));subst he;clear HE HN HC HD;have hq:((c:Int) == (c:Int))=true:=(by simp);go_wp2;go_quiet (fail);go_wp2;go_roundw
    case rel=>exact ⟨k + 1,by omega,by omega,by go_num,HN2,h_ (Go.below_drewN HB.o _)⟩
    simp [intOf];omega
   have HE2:=h_ (HE.o (fun _ _ h=>he (by rw [<- HC.o,<- HD.o,h])));have hq:((c:Int) == (d:Int))=false:=(by simp;omega);clear HE HN HC HD he;go_wp2;go_quiet (fail);go_wp2;go_ret;exact ⟨by rw [HE2.o];rfl,Go.below_drewN HB.o _⟩
  have HE2:=h_ (HE.o (fun _ h=>absurd (by rw [HQ.o];exact h) h2));clear HE hi1 hi2;go_wp2;go_quiet (fail);go_wp2;go_ret;exact ⟨by rw [HE2.o];rfl,Go.below_drewN HB.o _⟩
 have HE2:=h_ (HE.o (fun h _=>absurd (by rw [HP.o];exact h) h1));clear HE hi1 hi2;go_wp2;go_quiet (fail);go_wp2;go_ret;exact ⟨by rw [HE2.o];rfl,Go.below_drewN HB.o _⟩
/- -/
def ceL (c:CellB):Ce:=(c.1,c.2.data.toList)
def cesL (cs:List CellB):List Ce:=cs.map ceL
theorem za6 (cs:List CellB):(cesL cs).length=cs.length:=by unfold cesL;rw [List.length_map]
theorem zkP {cs:List CellB} {k:Nat} (hk:k < cs.length):(cesL cs).getD k default=ceL (cs.getD k default):=by
 unfold cesL;simp [List.getD,hk]
theorem zcS (cs:List CellB) (k:Nat) (hk:k < cs.length):(cesL cs).take (k + 1)=(cesL cs).take k ++ [ceL (cs.getD k default)]:=by
 rw [zaF (by rw [za6];exact hk) default,zkP hk]
theorem ziR {cs:List CellB} (hC:CES cs) {c:Ce} (h:c ∈ cesL cs):c.1 < 18446744073709551616:=by
 obtain ⟨x,hx,rfl⟩:=List.mem_map.1 h;exact (hC x hx).1
theorem zk9 {kind:Int} {l:List Ce} {k:Nat} (h:errK kind (l.take k)≠0):errK kind l=errK kind (l.take k):=by
 have:=zfV kind (l.take k) (l.drop k);rw [List.take_append_drop,if_pos h] at this;exact this
theorem errK_at {kind:Int} {cs:List CellB} {k:Nat} (hk:k < cs.length) (h0:errK kind ((cesL cs).take k)=0) :
  (checkC kind (cs.getD k default).1 (cs.getD k default).2.data.toList≠0->errK kind (cesL cs)=checkC kind (cs.getD k default).1 (cs.getD k default).2.data.toList) /\
  (checkC kind (cs.getD k default).1 (cs.getD k default).2.data.toList=0->errK kind ((cesL cs).take (k + 1))=0):=by
 have hs:=zcS cs k hk;have e:errK kind ((cesL cs).take (k + 1))=checkC kind (cs.getD k default).1 (cs.getD k default).2.data.toList:=by
  rw [hs,zfV,if_neg (fun h=>h h0),errK];split
  ·rfl
  rename_i hh;rw [errK];exact (Decidable.of_not_not hh).symm
 refine ⟨fun h=>?_,fun h=>by rw [e];exact h⟩;rw [<- e];exact zk9 (by rw [e];exact h)
def lstB (cs:List CellB) (k:Nat):CellB:=if k=0 then (0,⟨#[]⟩) else cs.getD (k - 1) default
theorem lst_take {cs:List CellB}:∀ {k:Nat},k<=cs.length->lst (0,[]) ((cesL cs).take k)=ceL (lstB cs k)
 | 0,_=>by rw [List.take_zero,lst,lstB,if_pos rfl];rfl
 | k + 1,h=>by rw [zcS cs k (by omega),lst_snoc,lstB,if_neg (by omega),Nat.add_sub_cancel]
theorem ziD {kind:Int} (h2:kind≠2) {cs:List CellB} {k:Nat} (hk:k < cs.length):wrC kind ((cesL cs).take (k + 1))=wrC kind ((cesL cs).take k) ++ pc kind k (ceL (lstB cs k)) (ceL (cs.getD k default)):=by
 unfold wrC;rw [if_neg h2,if_neg h2,zcS cs k hk,wrN_snoc,lst_take (by omega),List.length_take,za6,Nat.zero_add,Nat.min_eq_left (by omega)]
theorem zj7:∀ a b,sumT (a ++ b)=sumT a + sumT b
 | [],b=>by simp [sumT]
 | c :: r,b=>by rw [List.cons_append,sumT,sumT,zj7 r b];omega
theorem sumT_take (l:List Ce) (k:Nat):sumT (l.take k)<=sumT l:=by
 have:=zj7 (l.take k) (l.drop k);rw [List.take_append_drop] at this;omega
theorem zeH {kind:Int} {cs:List CellB} (hC:CES cs) {k:Nat} (h0:errK kind ((cesL cs).take k)=0):(wrC kind ((cesL cs).take k)).length<=10 * cs.length + sumT (cesL cs):=by
 have hf:=ziM h0 (fun c hc=>ziR hC (List.mem_of_mem_take hc));have h1:=wrC_le hf;have h2:=sumT_take (cesL cs) k;rw [List.length_take,za6] at h1;omega
theorem zbN {w:World} {base:Nat} {v:Value} {l:Bs} {g:Nat} {c:Array Value} {z:Nat × Nat} (h:Own w base v l) (hg:w.heap[g]?=some (.cells c 57 z)):∀ k,v.ownBlock=some k->k≠g:=by
 rcases h.2 with ⟨rfl,_⟩ | ⟨q,cap,cur,rfl,hb,hq,_⟩
 ·intro k hk;cases hk
 intro k hk;have e:q=k:=by injection hk
 subst e;rintro rfl;rw [hq] at hg;injection hg with hg
 injection hg with h1 h2
 exact absurd h2 (by decide)
theorem own_blk {w:World} {base:Nat} {v:Value} {l:Bs} (h:Own w base v l) {i:Nat} (hi:i < l.length):v.ownBlock=some (adr v i).block:=by
 rcases h.2 with ⟨rfl,hn⟩ | ⟨q,cap,cur,rfl,hb,hq,_⟩
 ·exact absurd hi (by omega)
 have e:adr (.slice (some ⟨q,0,none⟩) l.length cap) i=⟨q,i,none⟩:=by
  simp only [adr,Addr.add];split <;> simp_all
 rw [e];rfl
theorem Own.grown9 {w w':World} {base:Nat} {v:Value} {l:Bs} (h:Own w base v l) {r:Option Nat} (hg:w.grownBy w' r) (hne:∀ k,v.ownBlock=some k->some k≠r):Own w' base v l:=by
 refine ⟨h.1,?_⟩;rcases h.2 with h2 | ⟨g,cap,cur,rfl,hbg,hgg,q⟩
 ·exact .inl h2
 refine .inr ⟨g,cap,cur,rfl,hbg,?_,q⟩;rw [hg.block g (Array.getElem?_eq_some_iff.1 hgg).1 (hne g rfl)];exact hgg
theorem lstB_ok {cs:List CellB} (hC:CES cs) {k:Nat} (hk:k<=cs.length) {x:Nat} {s:ByteArray} (h:lstB cs k=(x,s)):s.size<=140737488351232:=by
 unfold lstB at h;split at h
 ·injection h with h1 h2;subst h2;decide
 have:=(hC.get (k:=k - 1) (by omega)).2;rw [h] at this;exact this
theorem wrC2_next {cs:List CellB} (hC:CES cs) {k:Nat} (hk:k < cs.length) (h0:errK 2 ((cesL cs).take k)=0) {x:Nat} {s:ByteArray} (hg:cs.getD k default=(x,s)) (hx:x<=1) :
  (k % 8=0->wrC 2 ((cesL cs).take (k + 1))=wrC 2 ((cesL cs).take k) ++ [UInt8.ofNat x]) /\
  (k % 8≠0->∃ ini y,wrC 2 ((cesL cs).take k)=ini ++ [y]/\y.toNat < 2 ^ (k % 8)/\wrC 2 ((cesL cs).take (k + 1))=ini ++ [UInt8.ofNat (y.toNat + 2 ^ (k % 8) * x)]):=by
 have hf:=ziM h0 (fun c hc=>ziR hC (List.mem_of_mem_take hc));have hl:(((cesL cs).take k).map fun c:Ce=>c.1).length=k:=by rw [List.length_map,List.length_take,za6];omega
 have hp:=packB_snoc k (((cesL cs).take k).map fun c:Ce=>c.1) x (by rw [hl];omega) (fit_bits hf).2 hx;rw [hl] at hp;have e:((cesL cs).take (k + 1)).map (fun c:Ce=>c.1)=(((cesL cs).take k).map fun c:Ce=>c.1) ++ [x]:=by
  rw [zcS cs k hk,hg,List.map_append];rfl
 unfold wrC;rw [if_pos rfl,if_pos rfl,e];exact hp
def WrK (w:World) (kind:Int) (cs:List CellB) (e:Ending) (w':World):Prop :=
 ∃ b,e=.returned (.tuple #[b,.int .i64 (wrE kind (cesL cs):Nat)])/\Own w' w.heap.size b (if wrE kind (cesL cs)=0 then wrC kind (cesL cs) else [])/\Below w.heap.size w w'
theorem ref_Write09b (v:Value) (kind:Int) (cs:List CellB) (w:World) (hv:RdE w v cs) (hC:CES cs) (hk:0<=kind/\kind<=5) (h2:kind≠2) (h3:kind≠3) (h4:kind≠4) (hs:10 * cs.length + sumT (cesL cs)<=1000000) :
  Calls prog 183 #[.int .i64 kind,v] w (WrK w kind cs):=by
 have q2:(kind == 2)=false:=by rw [beq_eq_false_iff_ne];omega
 have q3:(kind == 3)=false:=by rw [beq_eq_false_iff_ne];omega
 have q4:(kind == 4)=false:=by rw [beq_eq_false_iff_ne];omega
 have hlen:=hv.len;have hsm:=hv.small;obtain ⟨n,hn⟩:=nm_ cs.length;rw [<- hn] at hlen hsm;have HN:=h_ hn;have HV:=h_ hv;have HC:=h_ hC;have HS:=h_ hs;have d1:decide (kind < 0)=false:=decide_eq_false (by omega);have d2:decide (kind > 5)=false:=decide_eq_false (by omega);have HE:=h_ (show wrE kind (cesL cs)=errK kind (cesL cs) by unfold wrE;rw [if_neg (by omega)]);have HK:=h_ hk;clear hv hC hs hn hk;have hB0:Below w.heap.size w (w.alloc (.cells #[.int .u64 0,.string ⟨#[]⟩] 57)):=(Below.refl _ _).alloc l_ _;have HB0:=h_ hB0;have hrow0:(w.alloc (.cells #[.int .u64 0,.string ⟨#[]⟩] 57)).heap[w.heap.size]?=some (.cells #[.int .u64 0,.string ⟨#[]⟩] 57 (0,0)):=heap_alloc_new w _;have HR0:=h_ hrow0;have hz0:w.heap.size + 1<=(w.alloc (.cells #[.int .u64 0,.string ⟨#[]⟩] 57)).heap.size:=by rw [World.size_alloc];omega
 have HZ0:=h_ hz0;clear hB0 hrow0 hz0;go_enter func183,ntmps183;go_wp2;go_loopw [6,8] (fun a i wr=>∃ k:Nat,k<=n/\i=.int .i64 k/\Hid (Below w.heap.size w wr)/\Hid (Own wr (w.heap.size + 1) a (wrC kind ((cesL cs).take k)))/\Hid (errK kind ((cesL cs).take k)=0)/\Hid (wr.heap[w.heap.size]?=some (.cells #[.int .u64 ((lstB cs k).1:Int),.string (lstB cs k).2] 57 (0,0)))/\Hid (w.heap.size + 1<=wr.heap.size)) (fun _ i _=>n - (intOf i).toNat)
 case atStart=>exact ⟨0,by omega,rfl,HB0,h_ (by rw [List.take_zero,show wrC kind []=[] from by unfold wrC;split;exact zaQ;rfl];exact zaG _ _),h_ rfl,HR0,HZ0⟩
 clear HB0 HR0 HZ0;obtain ⟨k,hk,rfl,HB,HO,HK0,HR,HZ⟩:=hrel;by_cases hlt:k < n
 ·have kl:k < cs.length:=by rw [<- HN.o];exact hlt
  have hr:=HV.later HB.o l_;obtain ⟨b,o,hidx,hcell,hblk⟩:=hr.get kl;obtain ⟨hc0,hc1⟩:=hcell _ hr;obtain ⟨ha1,ha2⟩:=errK_at kl HK0.o;have HA1:=h_ ha1;have HA2:=h_ ha2;obtain ⟨g1,g2⟩:=CES.get HC.o kl;have HNx:=h_ (@ziD kind);have hcl:=zcS cs k kl;have HCL:=h_ hcl;have HLs:=h_ (show lstB cs (k + 1)=cs.getD k default from by unfold lstB;rw [if_neg (by omega),Nat.add_sub_cancel]);rcases hcg:cs.getD k default with ⟨x,s⟩
  rw [hcg] at HLs;have HCell:=h_ hcell;rw [hcg] at hc0 hc1 HA1 HA2 g1 g2 HCL HCell;have HCG:=h_ hcg;dsimp only at hc0 hc1 g1 g2;have hS:=zcD g2;obtain ⟨t,ht⟩:=nm_ s.data.toList;have HT:=h_ ht;rw [<- ht] at hS;have HSt:=h_ hS;rcases hlg:lstB cs k with ⟨px,ps⟩
  rw [hlg] at HR;have HLG:=h_ hlg;have CK:=h_ (fun wz=>zdD kind x s t wz HSt.o (by have:=HK.o;omega) g1);obtain ⟨y,hy⟩:=nm_ (checkC kind x t);have HY:=h_ hy;rw [<- hy] at CK;clear hr hcell ha1 ha2 hcl hcg hS ht hlg g2 hy;go_wp2_with fail;refine (CK.o _).mono ?_;rintro e w4 ⟨rfl,hb⟩;have hz4:wr.heap.size<=w4.heap.size:=hb.size;have HB4:=bT HB hb;have HO4:=h_ (HO.later hb l_);have HR4:=h_ ((hb.block w.heap.size (by have:=HZ.o;omega)).trans HR.o);have HZ4:=h_ (show w.heap.size + 1<=w4.heap.size by have:=HZ.o;omega);obtain ⟨hc0,hc1⟩:=HCell.o w4 (HV.later HB4.o l_)
  try dsimp only at hc0 hc1
  clear hb hz4 CK HB HO HR HZ;by_cases hy0:y=0
  ·have hyb:((y:Int) != 0)=false:=(by rw [bne_eq_false_iff_eq];omega);have HEk:=h_ (HA2.o (by rw [<- HT.o,<- HY.o];exact hy0));have hfit:Fit kind (x,t):=⟨by rw [<- HY.o];exact hy0,g1⟩;have HF:=h_ hfit;clear hfit HA1 HA2;have h34:¬ (kind=3∨kind=4):=(by omega);by_cases hk0:k=0/\kind≠0
   ·obtain ⟨rfl,h0⟩:=hk0;have q0:(kind != 0)=true:=(by rw [bne_iff_ne];exact h0);have HKZ:=h_ h0;rw [show ((0:Nat):Int)=0 from rfl] at hidx;have HLen:=h_ (zeH HC.o HK0.o);have HLen:=h_ (show (wrC kind ((cesL cs).take 0)).length<=1000000 by have:=HLen.o;have:=HS.o;omega);have HB6:=h_ (show Below w.heap.size w (w4.alloc (.cells #[.int .u64 (x:Int),.string s] 57)) from HB4.alloc HB4.size _);have HO6:=h_ (show Own (w4.alloc (.cells #[.int .u64 (x:Int),.string s] 57)) (w.heap.size + 1) u6 (wrC kind ((cesL cs).take 0)) from HO4.alloc _);have HR6:=h_ (show (w4.alloc (.cells #[.int .u64 (x:Int),.string s] 57)).heap[w.heap.size]?=some (.cells #[.int .u64 (px:Int),.string ps] 57 (0,0)) from (Below.heap_alloc _ _ _ (by have:=HZ4.o;omega)).trans HR4.o);have HQ6:=h_ (show (w4.alloc (.cells #[.int .u64 (x:Int),.string s] 57)).heap[w4.heap.size]?=some (.cells #[.int .u64 (x:Int),.string s] 57 (0,0)) from heap_alloc_new _ _);have HG6:=h_ (show w.heap.size < w4.heap.size/\w4.heap.size < (w4.alloc (.cells #[.int .u64 (x:Int),.string s] 57)).heap.size by rw [World.size_alloc];have:=HZ4.o;omega);have hp0:(w4.alloc (.cells #[.int .u64 (x:Int),.string s] 57)).cell? ⟨w.heap.size,0,none⟩=some (.int .u64 (px:Int)):=(by rw [cell_of_row _ _ _ _ _ _ HR6.o];rfl);have hp1:(w4.alloc (.cells #[.int .u64 (x:Int),.string s] 57)).cell? ⟨w.heap.size,1,none⟩=some (.string ps):=(by rw [cell_of_row _ _ _ _ _ _ HR6.o];rfl);have HPC:=h_ (show pc kind 0 (ceL (px,ps)) (ceL (x,s))=pc kind 0 (px,ps.data.toList) (x,t) by unfold ceL;rw [HT.o]);clear HB4 HO4 HR4 HZ4 HCell;go_wp2_with fail;generalize (w4.alloc (.cells #[.int .u64 (x:Int),.string s] 57))=w6 at *;generalize w4.heap.size=gp at *;refine (zcY (x:Int) (by omega) (by omega) _).mono ?_;rintro e w7 ⟨yv,rfl,hO7,hb⟩;rw [Int.toNat_natCast] at hO7;have HB7:=bT HB6 hb;have HO7:=h_ (HO6.later hb l_);have HR7:=h_ ((hb.block w.heap.size (by have:=HG6.o;omega)).trans HR6.o);have HQ7:=h_ ((hb.block gp (by have:=HG6.o;omega)).trans HQ6.o);have HG7:=h_ (show w.heap.size < gp/\gp < w7.heap.size by have:=HG6.o;have:=hb.size;omega);have hY:=hO7.rd (by have:=zaA x (by omega);omega);have HY7:=h_ hY;clear hb hO7 hY HB6 HO6 HR6 HQ6 HG6;go_wp2_with (with_reducible refine wpl_append (w.heap.size + 1) _ _ ?hs HO7.o _ (encU x) ?hx HY7.o ?hn ?hbase w.heap.size w HB7.o (by omega) ?_)
    case hs=>rfl
    case hx=>rfl
    case hn=>have:=HLen.o;have:=zaA x (by omega);omega
    case hbase=>have:=HG7.o;omega
    intro v8 w8 hO8 hB8 hg8;have HB8:=h_ hB8;have HO8:=h_ hO8;have HR8:=h_ ((hg8.block w.heap.size (by have:=HG7.o;omega) (fun e=>zbN HO7.o HR7.o _ e.symm rfl)).trans HR7.o);have HQ8:=h_ ((hg8.block gp (by have:=HG7.o;omega) (fun e=>zbN HO7.o HQ7.o _ e.symm rfl)).trans HQ7.o);have HG8:=h_ (show w.heap.size < gp/\gp < w8.heap.size by have:=HG7.o;have:=hg8.size;omega);clear hO8 hB8 hg8 HO7 HB7 HR7 HQ7 HG7 HY7;have HO9:=h_ (show Own w8 (w.heap.size + 1) v8 (wrC kind ((cesL cs).take (0 + 1))) from by rw [HNx.o (by omega) kl,HLG.o,HCG.o,HPC.o,zgC h34 HKZ.o];exact HO8.o);have e0:w8.cell? ⟨gp,0,none⟩=some (.int .u64 (x:Int)):=(by rw [cell_of_row _ _ _ _ _ _ HQ8.o];rfl);have e1:w8.cell? ⟨gp,1,none⟩=some (.string s):=(by rw [cell_of_row _ _ _ _ _ _ HQ8.o];rfl);have f0:w8.frozen? ⟨w.heap.size,0,none⟩=false:=frozen_of_row _ _ _ _ _ HR8.o;have f1:(w8.setCell ⟨w.heap.size,0,none⟩ (.int .u64 (x:Int))).frozen? ⟨w.heap.size,1,none⟩=false:=frozen_of_row _ _ _ _ _ (block_setCell HR8.o _);have c0:w8.cell? ⟨w.heap.size,0,none⟩=some (.int .u64 (px:Int)):=(by rw [cell_of_row _ _ _ _ _ _ HR8.o];rfl);have c1:(w8.setCell ⟨w.heap.size,0,none⟩ (.int .u64 (x:Int))).cell? ⟨w.heap.size,1,none⟩=some (.string ps):=(by rw [cell_of_row _ _ _ _ _ _ (block_setCell HR8.o _)];rfl);have HBe:=h_ (show Below w.heap.size w ((w8.setCell ⟨w.heap.size,0,none⟩ (.int .u64 (x:Int))).setCell ⟨w.heap.size,1,none⟩ (.string s)) from (HB8.setCell l_ _).setCell l_ _);have HOe:=h_ (show Own ((w8.setCell ⟨w.heap.size,0,none⟩ (.int .u64 (x:Int))).setCell ⟨w.heap.size,1,none⟩ (.string s)) (w.heap.size + 1) v8 (wrC kind ((cesL cs).take (0 + 1))) from HO9.grown9 (za0 (za0 (World.grownBy.refl _ _) _) _) (fun q e9 e8=>zbN HO9.o HR8.o q e9 (by injection e8)));have HRe:=h_ (show ((w8.setCell ⟨w.heap.size,0,none⟩ (.int .u64 (x:Int))).setCell ⟨w.heap.size,1,none⟩ (.string s)).heap[w.heap.size]?=some (.cells #[.int .u64 ((lstB cs (0 + 1)).1:Int),.string (lstB cs (0 + 1)).2] 57 (0,0)) by rw [HLs.o];exact block_setCell (block_setCell HR8.o _) _);have HZe:=h_ (show w.heap.size + 1<=((w8.setCell ⟨w.heap.size,0,none⟩ (.int .u64 (x:Int))).setCell ⟨w.heap.size,1,none⟩ (.string s)).heap.size by rw [World.size_setCell,World.size_setCell];have:=HG8.o;omega);clear HO9 HO8 HB8 HR8 HQ8 HG8;go_wp2;go_roundw
    case rel=>exact ⟨0 + 1,by omega,by go_num,HBe,HOe,HEk,HRe,HZe⟩
    simp [intOf];omega
   have hz:((k:Int) == 0)=false∨(((k:Int) == 0)=true/\(kind != 0)=false):=by
    rcases Nat.eq_zero_or_pos k with h | h
    ·right;subst h;exact ⟨by simp,by rw [bne_eq_false_iff_eq];exact Decidable.byContradiction fun h=>hk0 ⟨rfl,h⟩⟩
    left;rw [beq_eq_false_iff_ne];omega
   have HKK:=h_ hk0;rcases hz with e0 | ⟨e0,q0⟩
   all_goals
    have HLen:=h_ (zeH HC.o HK0.o)
    have HLen:=h_ (show (wrC kind ((cesL cs).take k)).length<=1000000 by have:=HLen.o;have:=HS.o;omega)
    have HB6:=h_ (show Below w.heap.size w (w4.alloc (.cells #[.int .u64 (x:Int),.string s] 57)) from HB4.alloc HB4.size _)
    have HO6:=h_ (show Own (w4.alloc (.cells #[.int .u64 (x:Int),.string s] 57)) (w.heap.size + 1) u6 (wrC kind ((cesL cs).take k)) from HO4.alloc _)
    have HR6:=h_ (show (w4.alloc (.cells #[.int .u64 (x:Int),.string s] 57)).heap[w.heap.size]?=some (.cells #[.int .u64 (px:Int),.string ps] 57 (0,0)) from (Below.heap_alloc _ _ _ (by have:=HZ4.o;omega)).trans HR4.o)
    have HQ6:=h_ (show (w4.alloc (.cells #[.int .u64 (x:Int),.string s] 57)).heap[w4.heap.size]?=some (.cells #[.int .u64 (x:Int),.string s] 57 (0,0)) from heap_alloc_new _ _)
    have HG6:=h_ (show w.heap.size < w4.heap.size/\w4.heap.size < (w4.alloc (.cells #[.int .u64 (x:Int),.string s] 57)).heap.size by rw [World.size_alloc];have:=HZ4.o;omega)
    have hp0:(w4.alloc (.cells #[.int .u64 (x:Int),.string s] 57)).cell? ⟨w.heap.size,0,none⟩=some (.int .u64 (px:Int)):=by rw [cell_of_row _ _ _ _ _ _ HR6.o];rfl
    have hp1:(w4.alloc (.cells #[.int .u64 (x:Int),.string s] 57)).cell? ⟨w.heap.size,1,none⟩=some (.string ps):=by rw [cell_of_row _ _ _ _ _ _ HR6.o];rfl
    have HPC:=h_ (show pc kind k (ceL (px,ps)) (ceL (x,s))=pc kind k (px,ps.data.toList) (x,t) by unfold ceL;rw [HT.o])
    clear HB4 HO4 HR4 HZ4 HCell
    obtain ⟨z,hz⟩:=nm_ (wrap64 (IntKind.u64.wrap ((x:Int) - px)))
    have hz9:z=wrap64 ((x:Int) - px):=by rw [hz,IntKind.wrap_u64];unfold wrap64;omega
    have HSt9:=h_ (show stepZ px x=zig z by unfold stepZ;rw [hz9])
    have hzr:-9223372036854775808<=z/\z<=9223372036854775807:=by rw [hz9];unfold wrap64;omega
    have HZr:=h_ hzr
    have HWz:=h_ hz.symm
    clear hz9 hzr hz
    go_wp2_with fail
    rw [HWz.o]
    generalize (w4.alloc (.cells #[.int .u64 (x:Int),.string s] 57))=w6 at *
    generalize w4.heap.size=gp at *
    refine (ref_Int z (HZr.o).1 (HZr.o).2 _).mono ?_
    rintro e w7 ⟨yv,rfl,hO7,hb⟩
    have HB7:=bT HB6 hb
    have HO7:=h_ (HO6.later hb l_)
    have HR7:=h_ ((hb.block w.heap.size (by have:=HG6.o;omega)).trans HR6.o)
    have HQ7:=h_ ((hb.block gp (by have:=HG6.o;omega)).trans HQ6.o)
    have HG7:=h_ (show w.heap.size < gp/\gp < w7.heap.size by have:=HG6.o;have:=hb.size;omega)
    have hY:=hO7.rd (by have:=zaA (zig z) (zeG z (HZr.o).1 (HZr.o).2);omega)
    have HY7:=h_ hY
    clear hb hO7 hY HB6 HO6 HR6 HQ6 HG6
    go_wp2_with (with_reducible refine wpl_append (w.heap.size + 1) _ _ ?hs HO7.o _ (encU (zig z)) ?hx HY7.o ?hn ?hbase w.heap.size w HB7.o (by omega) ?_)
    case hs=>rfl
    case hx=>rfl
    case hn=>have:=HLen.o;have:=zaA (zig z) (zeG z (HZr.o).1 (HZr.o).2);omega
    case hbase=>have:=HG7.o;omega
    intro v8 w8 hO8 hB8 hg8
    have HB8:=h_ hB8
    have HO8:=h_ hO8
    have HR8:=h_ ((hg8.block w.heap.size (by have:=HG7.o;omega) (fun e=>zbN HO7.o HR7.o _ e.symm rfl)).trans HR7.o)
    have HQ8:=h_ ((hg8.block gp (by have:=HG7.o;omega) (fun e=>zbN HO7.o HQ7.o _ e.symm rfl)).trans HQ7.o)
    have HG8:=h_ (show w.heap.size < gp/\gp < w8.heap.size by have:=HG7.o;have:=hg8.size;omega)
    clear hO8 hB8 hg8 HO7 HB7 HR7 HQ7 HG7 HY7
    have HO9:=h_ (show Own w8 (w.heap.size + 1) v8 (wrC kind ((cesL cs).take (k + 1))) from by rw [HNx.o (by omega) kl,HLG.o,HCG.o,HPC.o,zjL h34 (fun h=>HKK.o h),HSt9.o];exact HO8.o)
    have e0:w8.cell? ⟨gp,0,none⟩=some (.int .u64 (x:Int)):=by rw [cell_of_row _ _ _ _ _ _ HQ8.o];rfl
    have e1:w8.cell? ⟨gp,1,none⟩=some (.string s):=by rw [cell_of_row _ _ _ _ _ _ HQ8.o];rfl
    have f0:w8.frozen? ⟨w.heap.size,0,none⟩=false:=frozen_of_row _ _ _ _ _ HR8.o
    have f1:(w8.setCell ⟨w.heap.size,0,none⟩ (.int .u64 (x:Int))).frozen? ⟨w.heap.size,1,none⟩=false:=frozen_of_row _ _ _ _ _ (block_setCell HR8.o _)
    have c0:w8.cell? ⟨w.heap.size,0,none⟩=some (.int .u64 (px:Int)):=by rw [cell_of_row _ _ _ _ _ _ HR8.o];rfl
    have c1:(w8.setCell ⟨w.heap.size,0,none⟩ (.int .u64 (x:Int))).cell? ⟨w.heap.size,1,none⟩=some (.string ps):=by rw [cell_of_row _ _ _ _ _ _ (block_setCell HR8.o _)];rfl
    have HBe:=h_ (show Below w.heap.size w ((w8.setCell ⟨w.heap.size,0,none⟩ (.int .u64 (x:Int))).setCell ⟨w.heap.size,1,none⟩ (.string s)) from (HB8.setCell l_ _).setCell l_ _)
    have HOe:=h_ (show Own ((w8.setCell ⟨w.heap.size,0,none⟩ (.int .u64 (x:Int))).setCell ⟨w.heap.size,1,none⟩ (.string s)) (w.heap.size + 1) v8 (wrC kind ((cesL cs).take (k + 1))) from HO9.grown9 (za0 (za0 (World.grownBy.refl _ _) _) _) (fun q e9 e8=>zbN HO9.o HR8.o q e9 (by injection e8)))
    have HRe:=h_ (show ((w8.setCell ⟨w.heap.size,0,none⟩ (.int .u64 (x:Int))).setCell ⟨w.heap.size,1,none⟩ (.string s)).heap[w.heap.size]?=some (.cells #[.int .u64 ((lstB cs (k + 1)).1:Int),.string (lstB cs (k + 1)).2] 57 (0,0)) by rw [HLs.o];exact block_setCell (block_setCell HR8.o _) _)
    have HZe:=h_ (show w.heap.size + 1<=((w8.setCell ⟨w.heap.size,0,none⟩ (.int .u64 (x:Int))).setCell ⟨w.heap.size,1,none⟩ (.string s)).heap.size by rw [World.size_setCell,World.size_setCell];have:=HG8.o;omega)
    clear HO9 HO8 HB8 HR8 HQ8 HG8
    go_wp2
    go_roundw
    case rel=>exact ⟨k + 1,by omega,by go_num,HBe,HOe,HEk,HRe,HZe⟩
    case measure=>simp [intOf];omega
  have hyb:((y:Int) != 0)=true:=by rw [bne_iff_ne];omega
  have HF:=h_ (show wrE kind (cesL cs)=y from by rw [HE.o,HA1.o (by rw [<- HT.o,<- HY.o];exact hy0)];rw [<- HT.o,<- HY.o]);clear HA1 HA2 hc0 hc1;go_wp2;go_ret2;exact ⟨_,by rw [HF.o];rfl,by rw [HF.o,if_neg hy0];exact zaG _ _,HB4.o⟩
 obtain rfl:k=n:=by omega
 have hka:(cesL cs).take k=cesL cs:=List.take_of_length_le (by rw [za6,<- HN.o];exact l_);have HF:=h_ (show wrE kind (cesL cs)=0 from by rw [HE.o,<- hka];exact HK0.o);have HO2:=h_ (show Own wr w.heap.size u6 (wrC kind (cesL cs)) by have:=HO.o;rw [hka] at this;exact this.base (by omega));clear hka hlt;go_wp2;go_ret2;exact ⟨_,by rw [HF.o];rfl,by rw [HF.o,if_pos rfl];exact HO2.o,HB.o⟩
theorem ref_Write09t (q:Int) (h34:q=3∨q=4) (v:Value) (cs:List CellB) (w:World) (hv:RdE w v cs) (hC:CES cs) (hk:0<=q/\q<=5) (hs:10 * cs.length + sumT (cesL cs)<=1000000) :
  Calls prog 183 #[.int .i64 q,v] w (WrK w q cs):=by
 have HQ:=h_ h34;have q2:(q == 2)=false:=by rw [beq_eq_false_iff_ne];omega
 have hlen:=hv.len;have hsm:=hv.small;obtain ⟨n,hn⟩:=nm_ cs.length;rw [<- hn] at hlen hsm;have HN:=h_ hn;have HV:=h_ hv;have HC:=h_ hC;have HS:=h_ hs;have d1:decide (q < 0)=false:=decide_eq_false (by omega);have d2:decide (q > 5)=false:=decide_eq_false (by omega);have HE:=h_ (show wrE q (cesL cs)=errK q (cesL cs) by unfold wrE;rw [if_neg (by omega)]);have HK:=h_ hk;clear hv hC hs hn hk h34;have hB0:Below w.heap.size w (w.alloc (.cells #[.int .u64 0,.string ⟨#[]⟩] 57)):=(Below.refl _ _).alloc l_ _;have HB0:=h_ hB0;have hrow0:(w.alloc (.cells #[.int .u64 0,.string ⟨#[]⟩] 57)).heap[w.heap.size]?=some (.cells #[.int .u64 0,.string ⟨#[]⟩] 57 (0,0)):=heap_alloc_new w _;have HR0:=h_ hrow0;have hz0:w.heap.size + 1<=(w.alloc (.cells #[.int .u64 0,.string ⟨#[]⟩] 57)).heap.size:=by rw [World.size_alloc];omega
 have HZ0:=h_ hz0;clear hB0 hrow0 hz0;go_enter func183,ntmps183;go_wp2;go_loopw [6,8] (fun a i wr=>∃ k:Nat,k<=n/\i=.int .i64 k/\Hid (Below w.heap.size w wr)/\Hid (Own wr (w.heap.size + 1) a (wrC q ((cesL cs).take k)))/\Hid (errK q ((cesL cs).take k)=0)/\Hid (wr.heap[w.heap.size]?=some (.cells #[.int .u64 ((lstB cs k).1:Int),.string (lstB cs k).2] 57 (0,0)))/\Hid (w.heap.size + 1<=wr.heap.size)) (fun _ i _=>n - (intOf i).toNat)
 case atStart=>exact ⟨0,by omega,rfl,HB0,h_ (by rw [List.take_zero,show wrC q []=[] from by unfold wrC;split;exact zaQ;rfl];exact zaG _ _),h_ rfl,HR0,HZ0⟩
 clear HB0 HR0 HZ0;obtain ⟨k,hk,rfl,HB,HO,HK0,HR,HZ⟩:=hrel;by_cases hlt:k < n
 ·have kl:k < cs.length:=by rw [<- HN.o];exact hlt
  have hr:=HV.later HB.o l_;obtain ⟨b,o,hidx,hcell,hblk⟩:=hr.get kl;obtain ⟨hc0,hc1⟩:=hcell _ hr;obtain ⟨ha1,ha2⟩:=errK_at kl HK0.o;have HA1:=h_ ha1;have HA2:=h_ ha2;obtain ⟨g1,g2⟩:=CES.get HC.o kl;have HNx:=h_ (@ziD q);have hcl:=zcS cs k kl;have HCL:=h_ hcl;have HLs:=h_ (show lstB cs (k + 1)=cs.getD k default from by unfold lstB;rw [if_neg (by omega),Nat.add_sub_cancel]);rcases hcg:cs.getD k default with ⟨x,s⟩
  rw [hcg] at HLs;have HCell:=h_ hcell;rw [hcg] at hc0 hc1 HA1 HA2 g1 g2 HCL HCell;have HCG:=h_ hcg;dsimp only at hc0 hc1 g1 g2;have hS:=zcD g2;obtain ⟨t,ht⟩:=nm_ s.data.toList;have HT:=h_ ht;rw [<- ht] at hS;have HSt:=h_ hS;rcases hlg:lstB cs k with ⟨px,ps⟩
  rw [hlg] at HR;have HLG:=h_ hlg;have CK:=h_ (fun wz=>zdD q x s t wz HSt.o (by have:=HK.o;omega) g1);obtain ⟨y,hy⟩:=nm_ (checkC q x t);have HY:=h_ hy;rw [<- hy] at CK;clear hr hcell ha1 ha2 hcl hcg hS ht hlg g2 hy;go_wp2_with fail;refine (CK.o _).mono ?_;rintro e w4 ⟨rfl,hb⟩;have hz4:wr.heap.size<=w4.heap.size:=hb.size;have HB4:=bT HB hb;have HO4:=h_ (HO.later hb l_);have HR4:=h_ ((hb.block w.heap.size (by have:=HZ.o;omega)).trans HR.o);have HZ4:=h_ (show w.heap.size + 1<=w4.heap.size by have:=HZ.o;omega);obtain ⟨hc0,hc1⟩:=HCell.o w4 (HV.later HB4.o l_)
  try dsimp only at hc0 hc1
  clear hb hz4 CK HB HO HR HZ;by_cases hy0:y=0
  ·have hyb:((y:Int) != 0)=false:=(by rw [bne_eq_false_iff_eq];omega);have HEk:=h_ (HA2.o (by rw [<- HT.o,<- HY.o];exact hy0));have hfit:Fit q (x,t):=⟨by rw [<- HY.o];exact hy0,g1⟩;have HF:=h_ hfit;clear hfit HA1 HA2;have HLen:=h_ (zeH HC.o HK0.o);have HLen:=h_ (show (wrC q ((cesL cs).take k)).length<=1000000 by have:=HLen.o;have:=HS.o;omega);have HB6:=h_ (show Below w.heap.size w (w4.alloc (.cells #[.int .u64 (x:Int),.string s] 57)) from HB4.alloc HB4.size _);have HO6:=h_ (show Own (w4.alloc (.cells #[.int .u64 (x:Int),.string s] 57)) (w.heap.size + 1) u6 (wrC q ((cesL cs).take k)) from HO4.alloc _);have HR6:=h_ (show (w4.alloc (.cells #[.int .u64 (x:Int),.string s] 57)).heap[w.heap.size]?=some (.cells #[.int .u64 (px:Int),.string ps] 57 (0,0)) from (Below.heap_alloc _ _ _ (by have:=HZ4.o;omega)).trans HR4.o);have HQ6:=h_ (show (w4.alloc (.cells #[.int .u64 (x:Int),.string s] 57)).heap[w4.heap.size]?=some (.cells #[.int .u64 (x:Int),.string s] 57 (0,0)) from heap_alloc_new _ _);have HG6:=h_ (show w.heap.size < w4.heap.size/\w4.heap.size < (w4.alloc (.cells #[.int .u64 (x:Int),.string s] 57)).heap.size by rw [World.size_alloc];have:=HZ4.o;omega);have hp0:(w4.alloc (.cells #[.int .u64 (x:Int),.string s] 57)).cell? ⟨w.heap.size,0,none⟩=some (.int .u64 (px:Int)):=(by rw [cell_of_row _ _ _ _ _ _ HR6.o];rfl);have hp1:(w4.alloc (.cells #[.int .u64 (x:Int),.string s] 57)).cell? ⟨w.heap.size,1,none⟩=some (.string ps):=(by rw [cell_of_row _ _ _ _ _ _ HR6.o];rfl);have HPC:=h_ (show pc q k (ceL (px,ps)) (ceL (x,s))=pc q k (px,ps.data.toList) (x,t) by unfold ceL;rw [HT.o]);clear HB4 HO4 HR4 HZ4 HCell;have hz:(q == 3)=true∨((q == 3)=false/\(q == 4)=true):=by rcases HQ.o with rfl | rfl;exact .inl rfl;exact .inr ⟨rfl,rfl⟩
   rcases hz with e3 | ⟨e3,e4⟩
   all_goals
    have HPS:=h_ (zcD (lstB_ok HC.o (show k<=cs.length by omega) HLG.o))
    obtain ⟨pl,hpl⟩:=nm_ ps.data.toList
    rw [<- hpl] at HPS HPC
    have hfl:=(HF.text HQ.o).2.1
    have hss:s.size=t.length:=HSt.size9
    clear hpl
    go_wp2_with fail
    generalize (w4.alloc (.cells #[.int .u64 (x:Int),.string s] 57))=w6 at *
    generalize w4.heap.size=gp at *
    refine (zgV ps s pl t _ HPS.o HSt.o).mono ?_
    rintro e w62 ⟨rfl,hb⟩
    have HB62:=bT HB6 hb
    have HO62:=h_ (HO6.later hb l_)
    have HR62:=h_ ((hb.block w.heap.size (by have:=HG6.o;omega)).trans HR6.o)
    have HQ62:=h_ ((hb.block gp (by have:=HG6.o;omega)).trans HQ6.o)
    have HG62:=h_ (show w.heap.size < gp/\gp < w62.heap.size by have:=HG6.o;have:=hb.size;omega)
    clear hb HB6 HO6 HR6 HQ6 HG6
    obtain ⟨hN1,hN2⟩:=shr_le pl t
    obtain ⟨N,hN⟩:=nm_ (shr pl t)
    rw [<- hN] at hN1 hN2 ⊢
    have HN9:=h_ hN
    have hle:=h_ (zaA N (by omega))
    clear hN
    go_wp2_with fail
    refine (zcY (N:Int) (by omega) (by omega) _).mono ?_
    rintro e w7 ⟨yv,rfl,hO7,hb⟩
    rw [Int.toNat_natCast] at hO7
    have HB7:=bT HB62 hb
    have HO7:=h_ (HO62.later hb l_)
    have HR7:=h_ ((hb.block w.heap.size (by have:=HG62.o;omega)).trans HR62.o)
    have HQ7:=h_ ((hb.block gp (by have:=HG62.o;omega)).trans HQ62.o)
    have HG7:=h_ (show w.heap.size < gp/\gp < w7.heap.size by have:=HG62.o;have:=hb.size;omega)
    have hY:=hO7.rd (by have:=hle.o;omega)
    have HY7:=h_ hY
    clear hb hO7 hY HB62 HO62 HR62 HQ62 HG62
    go_wp2_with (with_reducible refine wpl_append (w.heap.size + 1) _ _ ?hs HO7.o _ (encU N) ?hx HY7.o ?hn ?hbase w.heap.size w HB7.o (by omega) ?_)
    case hs=>rfl
    case hx=>rfl
    case hn=>have:=HLen.o;have:=hle.o;omega
    case hbase=>have:=HG7.o;omega
    intro v8 w8 hO8 hB8 hg8
    have HB8:=h_ hB8
    have HO8:=h_ hO8
    have HR8:=h_ ((hg8.block w.heap.size (by have:=HG7.o;omega) (fun e=>zbN HO7.o HR7.o _ e.symm rfl)).trans HR7.o)
    have HQ8:=h_ ((hg8.block gp (by have:=HG7.o;omega) (fun e=>zbN HO7.o HQ7.o _ e.symm rfl)).trans HQ7.o)
    have HG8:=h_ (show w.heap.size < gp/\gp < w8.heap.size by have:=HG7.o;have:=hg8.size;omega)
    clear hO8 hB8 hg8 HO7 HB7 HR7 HQ7 HG7 HY7
    have e1:w8.cell? ⟨gp,1,none⟩=some (.string s):=by rw [cell_of_row _ _ _ _ _ _ HQ8.o];rfl
    have HS2:=h_ (HSt.dropS N)
    obtain ⟨bv,w9,hrun,hRd,hb⟩:=zd3 HS2.o w8
    rw [hss] at hrun
    have HB9:=bT HB8 hb
    have HO9:=h_ (HO8.later hb l_)
    have HR9:=h_ ((hb.block w.heap.size (by have:=HG8.o;omega)).trans HR8.o)
    have HQ9:=h_ ((hb.block gp (by have:=HG8.o;omega)).trans HQ8.o)
    have HG9:=h_ (show w.heap.size < gp/\gp < w9.heap.size by have:=HG8.o;have:=hb.size;omega)
    clear hb HB8 HO8 HR8 HQ8 HG8
    have HRd:=h_ hRd
    have hll:(t.drop N).length<=256:=by rw [List.length_drop];omega
    have hlb:=h_ (show (encB (t.drop N)).length<=10 + 256 by rw [zbI];have:=zaA (t.drop N).length (by omega);omega)
    clear hRd hll
    go_wp2_with fail
    refine (zjF bv (t.drop N) w9 HRd.o).mono ?_
    rintro e w10 ⟨y2,rfl,hO10,hb⟩
    have HB10:=bT HB9 hb
    have HO10:=h_ (HO9.later hb l_)
    have HR10:=h_ ((hb.block w.heap.size (by have:=HG9.o;omega)).trans HR9.o)
    have HQ10:=h_ ((hb.block gp (by have:=HG9.o;omega)).trans HQ9.o)
    have HG10:=h_ (show w.heap.size < gp/\gp < w10.heap.size by have:=HG9.o;have:=hb.size;omega)
    have hY:=hO10.rd (by have:=hlb.o;omega)
    have HY10:=h_ hY
    clear hb hO10 hY HB9 HO9 HR9 HQ9 HG9
    go_wp2_with (with_reducible refine wpl_append (w.heap.size + 1) _ _ ?hs HO10.o _ (encB (t.drop N)) ?hx HY10.o ?hn ?hbase w.heap.size w HB10.o (by omega) ?_)
    case hs=>rfl
    case hx=>rfl
    case hn=>have:=HLen.o;have:=hlb.o;rw [List.length_append];have:=hle.o;omega
    case hbase=>have:=HG10.o;omega
    intro v11 w11 hO11 hB11 hg11
    have HB11:=h_ hB11
    have HO11:=h_ hO11
    have HR11:=h_ ((hg11.block w.heap.size (by have:=HG10.o;omega) (fun e=>zbN HO10.o HR10.o _ e.symm rfl)).trans HR10.o)
    have HQ11:=h_ ((hg11.block gp (by have:=HG10.o;omega) (fun e=>zbN HO10.o HQ10.o _ e.symm rfl)).trans HQ10.o)
    have HG11:=h_ (show w.heap.size < gp/\gp < w11.heap.size by have:=HG10.o;have:=hg11.size;omega)
    clear hO11 hB11 hg11 HO10 HB10 HR10 HQ10 HG10 HY10
    have HO9:=h_ (show Own w11 (w.heap.size + 1) v11 (wrC q ((cesL cs).take (k + 1))) from by rw [HNx.o (by have:=HQ.o;omega) kl,HLG.o,HCG.o,HPC.o,zjK HQ.o,<- List.append_assoc];dsimp only;rw [<- HN9.o];exact HO11.o)
    have e0:w11.cell? ⟨gp,0,none⟩=some (.int .u64 (x:Int)):=by rw [cell_of_row _ _ _ _ _ _ HQ11.o];rfl
    have e1:w11.cell? ⟨gp,1,none⟩=some (.string s):=by rw [cell_of_row _ _ _ _ _ _ HQ11.o];rfl
    have f0:w11.frozen? ⟨w.heap.size,0,none⟩=false:=frozen_of_row _ _ _ _ _ HR11.o
    have f1:(w11.setCell ⟨w.heap.size,0,none⟩ (.int .u64 (x:Int))).frozen? ⟨w.heap.size,1,none⟩=false:=frozen_of_row _ _ _ _ _ (block_setCell HR11.o _)
    have c0:w11.cell? ⟨w.heap.size,0,none⟩=some (.int .u64 (px:Int)):=by rw [cell_of_row _ _ _ _ _ _ HR11.o];rfl
    have c1:(w11.setCell ⟨w.heap.size,0,none⟩ (.int .u64 (x:Int))).cell? ⟨w.heap.size,1,none⟩=some (.string ps):=by rw [cell_of_row _ _ _ _ _ _ (block_setCell HR11.o _)];rfl
    have HBe:=h_ (show Below w.heap.size w ((w11.setCell ⟨w.heap.size,0,none⟩ (.int .u64 (x:Int))).setCell ⟨w.heap.size,1,none⟩ (.string s)) from (HB11.setCell l_ _).setCell l_ _)
    have HOe:=h_ (show Own ((w11.setCell ⟨w.heap.size,0,none⟩ (.int .u64 (x:Int))).setCell ⟨w.heap.size,1,none⟩ (.string s)) (w.heap.size + 1) v11 (wrC q ((cesL cs).take (k + 1))) from HO9.grown9 (za0 (za0 (World.grownBy.refl _ _) _) _) (fun q e9 e8=>zbN HO9.o HR11.o q e9 (by injection e8)))
    have HRe:=h_ (show ((w11.setCell ⟨w.heap.size,0,none⟩ (.int .u64 (x:Int))).setCell ⟨w.heap.size,1,none⟩ (.string s)).heap[w.heap.size]?=some (.cells #[.int .u64 ((lstB cs (k + 1)).1:Int),.string (lstB cs (k + 1)).2] 57 (0,0)) by rw [HLs.o];exact block_setCell (block_setCell HR11.o _) _)
    have HZe:=h_ (show w.heap.size + 1<=((w11.setCell ⟨w.heap.size,0,none⟩ (.int .u64 (x:Int))).setCell ⟨w.heap.size,1,none⟩ (.string s)).heap.size by rw [World.size_setCell,World.size_setCell];have:=HG11.o;omega)
    clear HO9 HO11 HB11 HR11 HQ11 HG11
    go_wp2
    go_roundw
    case rel=>exact ⟨k + 1,by omega,by go_num,HBe,HOe,HEk,HRe,HZe⟩
    case measure=>simp [intOf];omega
  have hyb:((y:Int) != 0)=true:=by rw [bne_iff_ne];omega
  have HF:=h_ (show wrE q (cesL cs)=y from by rw [HE.o,HA1.o (by rw [<- HT.o,<- HY.o];exact hy0)];rw [<- HT.o,<- HY.o]);clear HA1 HA2 hc0 hc1;go_wp2;go_ret2;exact ⟨_,by rw [HF.o];rfl,by rw [HF.o,if_neg hy0];exact zaG _ _,HB4.o⟩
 obtain rfl:k=n:=by omega
 have hka:(cesL cs).take k=cesL cs:=List.take_of_length_le (by rw [za6,<- HN.o];exact l_);have HF:=h_ (show wrE q (cesL cs)=0 from by rw [HE.o,<- hka];exact HK0.o);have HO2:=h_ (show Own wr w.heap.size u6 (wrC q (cesL cs)) by have:=HO.o;rw [hka] at this;exact this.base (by omega));clear hka hlt;go_wp2;go_ret2;exact ⟨_,by rw [HF.o];rfl,by rw [HF.o,if_pos rfl];exact HO2.o,HB.o⟩
theorem ref_Write09c (v:Value) (cs:List CellB) (w:World) (hv:RdE w v cs) (hC:CES cs) (hk:0<=(2:Int)/\(2:Int)<=5) (hs:10 * cs.length + sumT (cesL cs)<=1000000) :
  Calls prog 183 #[.int .i64 2,v] w (WrK w (2:Int) cs):=by
 have hlen:=hv.len;have hsm:=hv.small;obtain ⟨n,hn⟩:=nm_ cs.length;rw [<- hn] at hlen hsm;have HN:=h_ hn;have HV:=h_ hv;have HC:=h_ hC;have HS:=h_ hs;have d1:decide ((2:Int) < 0)=false:=decide_eq_false (by omega);have d2:decide ((2:Int) > 5)=false:=decide_eq_false (by omega);have HE:=h_ (show wrE (2:Int) (cesL cs)=errK (2:Int) (cesL cs) by unfold wrE;rw [if_neg (by omega)]);have HK:=h_ hk;clear hv hC hs hn hk;have hB0:Below w.heap.size w (w.alloc (.cells #[.int .u64 0,.string ⟨#[]⟩] 57)):=(Below.refl _ _).alloc l_ _;have HB0:=h_ hB0;have hrow0:(w.alloc (.cells #[.int .u64 0,.string ⟨#[]⟩] 57)).heap[w.heap.size]?=some (.cells #[.int .u64 0,.string ⟨#[]⟩] 57 (0,0)):=heap_alloc_new w _;have HR0:=h_ hrow0;have hz0:w.heap.size + 1<=(w.alloc (.cells #[.int .u64 0,.string ⟨#[]⟩] 57)).heap.size:=by rw [World.size_alloc];omega
 have HZ0:=h_ hz0;clear hB0 hrow0 hz0;go_enter func183,ntmps183;go_wp2;go_loopw [6,8] (fun a i wr=>∃ k:Nat,k<=n/\i=.int .i64 k/\Hid (Below w.heap.size w wr)/\Hid (Own wr (w.heap.size + 1) a (wrC (2:Int) ((cesL cs).take k)))/\Hid (errK (2:Int) ((cesL cs).take k)=0)/\Hid (wr.heap[w.heap.size]?=some (.cells #[.int .u64 ((lstB cs k).1:Int),.string (lstB cs k).2] 57 (0,0)))/\Hid (w.heap.size + 1<=wr.heap.size)) (fun _ i _=>n - (intOf i).toNat)
 case atStart=>exact ⟨0,by omega,rfl,HB0,h_ (by rw [List.take_zero,show wrC (2:Int) []=[] from by unfold wrC;split;exact zaQ;rfl];exact zaG _ _),h_ rfl,HR0,HZ0⟩
 clear HB0 HR0 HZ0;obtain ⟨k,hk,rfl,HB,HO,HK0,HR,HZ⟩:=hrel;by_cases hlt:k < n
 ·have kl:k < cs.length:=by rw [<- HN.o];exact hlt
  have hr:=HV.later HB.o l_;obtain ⟨b,o,hidx,hcell,hblk⟩:=hr.get kl;obtain ⟨hc0,hc1⟩:=hcell _ hr;obtain ⟨ha1,ha2⟩:=errK_at kl HK0.o;have HA1:=h_ ha1;have HA2:=h_ ha2;obtain ⟨g1,g2⟩:=CES.get HC.o kl;have HNx:=h_ (@ziD (2:Int));have hcl:=zcS cs k kl;have HCL:=h_ hcl;have HLs:=h_ (show lstB cs (k + 1)=cs.getD k default from by unfold lstB;rw [if_neg (by omega),Nat.add_sub_cancel]);rcases hcg:cs.getD k default with ⟨x,s⟩
  rw [hcg] at HLs;have HCell:=h_ hcell;rw [hcg] at hc0 hc1 HA1 HA2 g1 g2 HCL HCell;have HCG:=h_ hcg;dsimp only at hc0 hc1 g1 g2;have hS:=zcD g2;obtain ⟨t,ht⟩:=nm_ s.data.toList;have HT:=h_ ht;rw [<- ht] at hS;have HSt:=h_ hS;rcases hlg:lstB cs k with ⟨px,ps⟩
  rw [hlg] at HR;have HLG:=h_ hlg;have CK:=h_ (fun wz=>zdD (2:Int) x s t wz HSt.o (by have:=HK.o;omega) g1);obtain ⟨y,hy⟩:=nm_ (checkC (2:Int) x t);have HY:=h_ hy;rw [<- hy] at CK;clear hr hcell ha1 ha2 hcl hcg hS ht hlg g2 hy;go_wp2_with fail;refine (CK.o _).mono ?_;rintro e w4 ⟨rfl,hb⟩;have hz4:wr.heap.size<=w4.heap.size:=hb.size;have HB4:=bT HB hb;have HO4:=h_ (HO.later hb l_);have HR4:=h_ ((hb.block w.heap.size (by have:=HZ.o;omega)).trans HR.o);have HZ4:=h_ (show w.heap.size + 1<=w4.heap.size by have:=HZ.o;omega);obtain ⟨hc0,hc1⟩:=HCell.o w4 (HV.later HB4.o l_)
  try dsimp only at hc0 hc1
  clear hb hz4 CK HB HO HR HZ;by_cases hy0:y=0
  ·have hyb:((y:Int) != 0)=false:=(by rw [bne_eq_false_iff_eq];omega);have HEk:=h_ (HA2.o (by rw [<- HT.o,<- HY.o];exact hy0));have hfit:Fit (2:Int) (x,t):=⟨by rw [<- HY.o];exact hy0,g1⟩;have HF:=h_ hfit;clear hfit HA1 HA2;have HX1:=h_ ((HF.num (by decide)).2 rfl);have HW2:=h_ (wrC2_next HC.o kl HK0.o HCG.o HX1.o);obtain ⟨r,hr⟩:=nm_ (k % 8);rw [<- hr] at HW2;have hrr:(k:Int) % 8=(r:Int):=(by omega);have hr8:r < 8:=(by omega);clear hr;have HLen:=h_ (zeH HC.o HK0.o);have HLen:=h_ (show (wrC (2:Int) ((cesL cs).take k)).length<=1000000 by have:=HLen.o;have:=HS.o;omega);have HB6:=h_ (show Below w.heap.size w (w4.alloc (.cells #[.int .u64 (x:Int),.string s] 57)) from HB4.alloc HB4.size _);have HO6:=h_ (show Own (w4.alloc (.cells #[.int .u64 (x:Int),.string s] 57)) (w.heap.size + 1) u6 (wrC (2:Int) ((cesL cs).take k)) from HO4.alloc _);have HR6:=h_ (show (w4.alloc (.cells #[.int .u64 (x:Int),.string s] 57)).heap[w.heap.size]?=some (.cells #[.int .u64 (px:Int),.string ps] 57 (0,0)) from (Below.heap_alloc _ _ _ (by have:=HZ4.o;omega)).trans HR4.o);have HQ6:=h_ (show (w4.alloc (.cells #[.int .u64 (x:Int),.string s] 57)).heap[w4.heap.size]?=some (.cells #[.int .u64 (x:Int),.string s] 57 (0,0)) from heap_alloc_new _ _);have HG6:=h_ (show w.heap.size < w4.heap.size/\w4.heap.size < (w4.alloc (.cells #[.int .u64 (x:Int),.string s] 57)).heap.size by rw [World.size_alloc];have:=HZ4.o;omega);have hp0:(w4.alloc (.cells #[.int .u64 (x:Int),.string s] 57)).cell? ⟨w.heap.size,0,none⟩=some (.int .u64 (px:Int)):=(by rw [cell_of_row _ _ _ _ _ _ HR6.o];rfl);have hp1:(w4.alloc (.cells #[.int .u64 (x:Int),.string s] 57)).cell? ⟨w.heap.size,1,none⟩=some (.string ps):=(by rw [cell_of_row _ _ _ _ _ _ HR6.o];rfl);have HPC:=h_ (show pc (2:Int) k (ceL (px,ps)) (ceL (x,s))=pc (2:Int) k (px,ps.data.toList) (x,t) by unfold ceL;rw [HT.o]);clear HB4 HO4 HR4 HZ4 HCell;by_cases hr0:r=0
   ·subst hr0;rw [show ((0:Nat):Int)=0 from rfl] at hrr;have HI3:=h_ (HW2.1 rfl);obtain ⟨ini,hini⟩:=nm_ (wrC (2:Int) ((cesL cs).take k));rw [<- hini] at HO6 HLen HI3;have HbA:=h_ (show Below w.heap.size w ((w4.alloc (.cells #[.int .u64 (x:Int),.string s] 57)).alloc (.cells #[.int .u8 0] 5)) from HB6.alloc HB6.size _);have HOA:=h_ (show Own ((w4.alloc (.cells #[.int .u64 (x:Int),.string s] 57)).alloc (.cells #[.int .u8 0] 5)) (w.heap.size + 1) u6 ini from HO6.alloc _);have HRA:=h_ (show ((w4.alloc (.cells #[.int .u64 (x:Int),.string s] 57)).alloc (.cells #[.int .u8 0] 5)).heap[w.heap.size]?=some (.cells #[.int .u64 (px:Int),.string ps] 57 (0,0)) from (Below.heap_alloc _ _ _ (by have:=HG6.o;omega)).trans HR6.o);have HQA:=h_ (show ((w4.alloc (.cells #[.int .u64 (x:Int),.string s] 57)).alloc (.cells #[.int .u8 0] 5)).heap[w4.heap.size]?=some (.cells #[.int .u64 (x:Int),.string s] 57 (0,0)) from (Below.heap_alloc _ _ _ (by have:=HG6.o;omega)).trans HQ6.o);have HGA:=h_ (show w.heap.size < w4.heap.size/\w4.heap.size < ((w4.alloc (.cells #[.int .u64 (x:Int),.string s] 57)).alloc (.cells #[.int .u8 0] 5)).heap.size by rw [World.size_alloc];have:=HG6.o;omega);clear hini HW2;go_wp2_with (with_reducible refine wpl_append (w.heap.size + 1) _ _ ?hs HOA.o _ [UInt8.ofNat (0:Int).toNat] ?hx (rd_one (w4.alloc (.cells #[.int .u64 (x:Int),.string s] 57)) 0 (by omega) (by omega)) ?hn ?hbase w.heap.size w HbA.o (by omega) ?_)
    case hs=>rfl
    case hx=>show _=Value.slice (some ⟨(w4.alloc (.cells #[.int .u64 (x:Int),.string s] 57)).heap.size,0,none⟩) 1 1;rw [World.size_alloc];rfl
    case hn=>have:=HLen.o;simp;omega
    case hbase=>have:=HGA.o;omega
    intro v8 w8 hO8 hB8 hg8;have HB8:=h_ hB8;have HO8:=h_ (show Own w8 (w.heap.size + 1) v8 (ini ++ [UInt8.ofNat 0]) from hO8);have HR8:=h_ ((hg8.block w.heap.size (by have:=HGA.o;omega) (fun e=>zbN HOA.o HRA.o _ e.symm rfl)).trans HRA.o);have HQ8:=h_ ((hg8.block w4.heap.size (by have:=HGA.o;omega) (fun e=>zbN HOA.o HQA.o _ e.symm rfl)).trans HQA.o);have HG8:=h_ (show w.heap.size < w4.heap.size/\w4.heap.size < w8.heap.size by have:=HGA.o;have:=hg8.size;omega);have HYL:=h_ (show (UInt8.ofNat 0).toNat < 2 ^ 0 by decide);have HLen:=h_ (show ini.length + 1<=1000001 by have:=HLen.o;omega);clear hO8 hB8 hg8 HO6 HB6 HR6 HQ6 HG6 HOA HbA HRA HQA HGA hp0 hp1;go_wp2;generalize w4.heap.size=gp at *;obtain ⟨q,hq⟩:=nm_ ((ini ++ [UInt8.ofNat 0]).length);have hq1:q=ini.length + 1:=(by rw [hq];simp);have hqs:q<=1000010:=(by rw [hq1];have:=HLen.o;omega);obtain ⟨yn,hyn⟩:=nm_ ((UInt8.ofNat 0).toNat);have hyl:yn < 2 ^ 0:=(by rw [hyn];exact HYL.o);have hRd:=HO8.rd (by rw [<- hq];omega);have hlen8:=hRd.len;rw [<- hq] at hlen8;have hix8:=hRd.idx (q - 1) (by rw [<- hq];omega);have hcl8:=hRd.cells (q - 1) (by rw [<- hq];omega);rw [show ((q - 1:Nat):Int)=(q:Int) - 1 from by omega] at hix8;rw [show at8 (ini ++ [UInt8.ofNat 0]) (q - 1)=(yn:Int) from by unfold at8;rw [hyn,hq1];simp] at hcl8;have hp0:w8.cell? ⟨gp,0,none⟩=some (.int .u64 (x:Int)):=(by rw [cell_of_row _ _ _ _ _ _ HQ8.o];rfl);have hq0:0 < q:=(by omega);have HQ1:=h_ hq1;have HQq:=h_ hq;have HYN:=h_ hyn;have HYL2:=h_ hyl;clear hRd hq hq1 hyn hyl;go_loopw [11,12] (fun bt kk wr2=>∃ j B:Nat,j<=0/\kk=.int .i64 j/\bt=.int .u8 (B:Int)/\Hid (B=2 ^ j)/\B<=128/\w8=wr2) (fun _ kk _=>0 - (intOf kk).toNat)
    case atStart=>exact ⟨0,1,by omega,rfl,rfl,h_ rfl,by omega,rfl⟩
    obtain ⟨j,B,hj,rfl,rfl,HBp,hB,rfl⟩:=hrel;by_cases hjr:j < 0
    ·exact absurd hjr (by omega)
    have hjr2:j=0:=(by omega);have HBr:=h_ (show B=2 ^ 0 by rw [HBp.o,hjr2]);have hxs:x<=1:=HX1.o;obtain ⟨P,hP⟩:=nm_ (B * x:Nat);have hPl:P<=128:=(by rw [hP];have:B * x<=B * 1:=Nat.mul_le_mul_left _ hxs;omega);have hsum:yn + P < 256:=(by have:=HYL2.o;rw [<- HBr.o] at this;omega);have hPm:(B:Int) * (x:Int)=(P:Int):=(by rw [hP];simp);obtain ⟨hst,hfz,hbg⟩:=HO8.set (i:=q - 1) (by rw [<- HQq.o];omega) (UInt8.ofNat (yn + P));rw [show cellB (UInt8.ofNat (yn + P))=.int .u8 ((yn:Int) + (P:Int)) from by unfold cellB;rw [UInt8.toNat_ofNat',Nat.mod_eq_of_lt hsum];simp] at hst;have hbel:=HB8.setCell (p:=adr v8 (q - 1)) (by omega) (.int .u8 ((yn:Int) + (P:Int)));have hnm:w.heap.size≠(adr v8 (q - 1)).block:=(by omega);have hng:gp≠(adr v8 (q - 1)).block:=fun e9=>zbN HO8.o HQ8.o _ (own_blk HO8.o (i:=q - 1) (by rw [<- HQq.o];omega)) e9.symm;have HB12:=h_ (show Below w.heap.size w ((w8.setCell (adr v8 (q - 1)) (.int .u8 ((yn:Int) + (P:Int)))).drew) from hbel.drew);have HO12:=h_ (show Own ((w8.setCell (adr v8 (q - 1)) (.int .u8 ((yn:Int) + (P:Int)))).drew) (w.heap.size + 1) v8 ((ini ++ [UInt8.ofNat 0]).set (q - 1) (UInt8.ofNat (yn + P))) from hst.drew);have HR12:=h_ (show ((w8.setCell (adr v8 (q - 1)) (.int .u8 ((yn:Int) + (P:Int)))).drew).heap[w.heap.size]?=some (.cells #[.int .u64 (px:Int),.string ps] 57 (0,0)) from (Below.heap_setCell _ _ _ _ hnm).trans HR8.o);have HQ12:=h_ (show ((w8.setCell (adr v8 (q - 1)) (.int .u8 ((yn:Int) + (P:Int)))).drew).heap[gp]?=some (.cells #[.int .u64 (x:Int),.string s] 57 (0,0)) from (Below.heap_setCell _ _ _ _ hng).trans HQ8.o);have HG12:=h_ (show w.heap.size < gp/\gp < ((w8.setCell (adr v8 (q - 1)) (.int .u8 ((yn:Int) + (P:Int)))).drew).heap.size by have:=HG8.o;show w.heap.size < gp/\gp < (w8.setCell (adr v8 (q - 1)) (.int .u8 ((yn:Int) + (P:Int)))).heap.size;rw [World.size_setCell];exact this);have hfin:(ini ++ [UInt8.ofNat 0]).set (q - 1) (UInt8.ofNat (yn + P))=wrC 2 ((cesL cs).take (k + 1)):=(by rw [HI3.o,HYN.o,HQ1.o,hP,HBr.o];simp);have HFin:=h_ hfin;clear hst hbel hnm hng hfin hP hbg hjr2;go_wp2_with fail;go_region;generalize ((w8.setCell (adr v8 (q - 1)) (.int .u8 ((yn:Int) + (P:Int)))).drew)=w12 at *;have HO9:=h_ (show Own w12 (w.heap.size + 1) v8 (wrC (2:Int) ((cesL cs).take (k + 1))) from HFin.o ▸ HO12.o);have e0:w12.cell? ⟨gp,0,none⟩=some (.int .u64 (x:Int)):=(by rw [cell_of_row _ _ _ _ _ _ HQ12.o];rfl);have e1:w12.cell? ⟨gp,1,none⟩=some (.string s):=(by rw [cell_of_row _ _ _ _ _ _ HQ12.o];rfl);have f0:w12.frozen? ⟨w.heap.size,0,none⟩=false:=frozen_of_row _ _ _ _ _ HR12.o;have f1:(w12.setCell ⟨w.heap.size,0,none⟩ (.int .u64 (x:Int))).frozen? ⟨w.heap.size,1,none⟩=false:=frozen_of_row _ _ _ _ _ (block_setCell HR12.o _);have c0:w12.cell? ⟨w.heap.size,0,none⟩=some (.int .u64 (px:Int)):=(by rw [cell_of_row _ _ _ _ _ _ HR12.o];rfl);have c1:(w12.setCell ⟨w.heap.size,0,none⟩ (.int .u64 (x:Int))).cell? ⟨w.heap.size,1,none⟩=some (.string ps):=(by rw [cell_of_row _ _ _ _ _ _ (block_setCell HR12.o _)];rfl);have HBe:=h_ (show Below w.heap.size w ((w12.setCell ⟨w.heap.size,0,none⟩ (.int .u64 (x:Int))).setCell ⟨w.heap.size,1,none⟩ (.string s)) from (HB12.setCell l_ _).setCell l_ _);have HOe:=h_ (show Own ((w12.setCell ⟨w.heap.size,0,none⟩ (.int .u64 (x:Int))).setCell ⟨w.heap.size,1,none⟩ (.string s)) (w.heap.size + 1) v8 (wrC (2:Int) ((cesL cs).take (k + 1))) from HO9.grown9 (za0 (za0 (World.grownBy.refl _ _) _) _) (fun q e9 e8=>zbN HO9.o HR12.o q e9 (by injection e8)));have HRe:=h_ (show ((w12.setCell ⟨w.heap.size,0,none⟩ (.int .u64 (x:Int))).setCell ⟨w.heap.size,1,none⟩ (.string s)).heap[w.heap.size]?=some (.cells #[.int .u64 ((lstB cs (k + 1)).1:Int),.string (lstB cs (k + 1)).2] 57 (0,0)) by rw [HLs.o];exact block_setCell (block_setCell HR12.o _) _);have HZe:=h_ (show w.heap.size + 1<=((w12.setCell ⟨w.heap.size,0,none⟩ (.int .u64 (x:Int))).setCell ⟨w.heap.size,1,none⟩ (.string s)).heap.size by rw [World.size_setCell,World.size_setCell];have:=HG12.o;omega);clear HO9 HO12 HB12 HR12 HQ12 HG12;go_wp2;go_roundw
    case rel=>exact ⟨k + 1,by omega,by go_num,HBe,HOe,HEk,HRe,HZe⟩
    simp [intOf];omega
   obtain ⟨ini,yb,hi1,hi2,hi3⟩:=HW2.2 hr0;have e0:((r:Int) == 0)=false:=(by rw [beq_eq_false_iff_ne];omega);have HYL:=h_ hi2;have HI3:=h_ hi3;rw [hi1] at HO6 HLen;have HLen:=h_ (show ini.length + 1<=1000000 by have:=HLen.o;simpa using this);clear hi1 hi2 hi3 HW2;have HO8:=HO6;have HB8:=HB6;have HR8:=HR6;have HQ8:=HQ6;have HG8:=HG6;clear HO6 HB6 HR6 HQ6 HG6;go_wp2;generalize (w4.alloc (.cells #[.int .u64 (x:Int),.string s] 57))=w8 at *;generalize w4.heap.size=gp at *;obtain ⟨q,hq⟩:=nm_ ((ini ++ [yb]).length);have hq1:q=ini.length + 1:=(by rw [hq];simp);have hqs:q<=1000010:=(by rw [hq1];have:=HLen.o;omega);obtain ⟨yn,hyn⟩:=nm_ ((yb).toNat);have hyl:yn < 2 ^ r:=(by rw [hyn];exact HYL.o);have hRd:=HO8.rd (by rw [<- hq];omega);have hlen8:=hRd.len;rw [<- hq] at hlen8;have hix8:=hRd.idx (q - 1) (by rw [<- hq];omega);have hcl8:=hRd.cells (q - 1) (by rw [<- hq];omega);rw [show ((q - 1:Nat):Int)=(q:Int) - 1 from by omega] at hix8;rw [show at8 (ini ++ [yb]) (q - 1)=(yn:Int) from by unfold at8;rw [hyn,hq1];simp] at hcl8;have hp0:w8.cell? ⟨gp,0,none⟩=some (.int .u64 (x:Int)):=(by rw [cell_of_row _ _ _ _ _ _ HQ8.o];rfl);have hq0:0 < q:=(by omega);have HQ1:=h_ hq1;have HQq:=h_ hq;have HYN:=h_ hyn;have HYL2:=h_ hyl;clear hRd hq hq1 hyn hyl;go_loopw [11,12] (fun bt kk wr2=>∃ j B:Nat,j<=r/\kk=.int .i64 j/\bt=.int .u8 (B:Int)/\Hid (B=2 ^ j)/\B<=128/\w8=wr2) (fun _ kk _=>r - (intOf kk).toNat)
   case atStart=>exact ⟨0,1,by omega,rfl,rfl,h_ rfl,by omega,rfl⟩
   obtain ⟨j,B,hj,rfl,rfl,HBp,hB,rfl⟩:=hrel;by_cases hjr:j < r
   ·have hB6:B<=64:=(by rw [HBp.o];exact (show 2 ^ j<=2 ^ 6 from Nat.pow_le_pow_right (by decide) (by omega)));go_wp2;go_roundw
    case rel=>exact ⟨j + 1,B * 2,by omega,by go_num,by go_num,h_ (by rw [HBp.o,Nat.pow_succ]),by omega,by first | trivial | rfl⟩
    simp [intOf];omega
   have hjr2:j=r:=(by omega);have HBr:=h_ (show B=2 ^ r by rw [HBp.o,hjr2]);have hxs:x<=1:=HX1.o;obtain ⟨P,hP⟩:=nm_ (B * x:Nat);have hPl:P<=128:=(by rw [hP];have:B * x<=B * 1:=Nat.mul_le_mul_left _ hxs;omega);have hsum:yn + P < 256:=(by have:=HYL2.o;rw [<- HBr.o] at this;omega);have hPm:(B:Int) * (x:Int)=(P:Int):=(by rw [hP];simp);obtain ⟨hst,hfz,hbg⟩:=HO8.set (i:=q - 1) (by rw [<- HQq.o];omega) (UInt8.ofNat (yn + P));rw [show cellB (UInt8.ofNat (yn + P))=.int .u8 ((yn:Int) + (P:Int)) from by unfold cellB;rw [UInt8.toNat_ofNat',Nat.mod_eq_of_lt hsum];simp] at hst;have hbel:=HB8.setCell (p:=adr u6 (q - 1)) (by omega) (.int .u8 ((yn:Int) + (P:Int)));have hnm:w.heap.size≠(adr u6 (q - 1)).block:=(by omega);have hng:gp≠(adr u6 (q - 1)).block:=fun e9=>zbN HO8.o HQ8.o _ (own_blk HO8.o (i:=q - 1) (by rw [<- HQq.o];omega)) e9.symm;have HB12:=h_ (show Below w.heap.size w ((w8.setCell (adr u6 (q - 1)) (.int .u8 ((yn:Int) + (P:Int)))).drew) from hbel.drew);have HO12:=h_ (show Own ((w8.setCell (adr u6 (q - 1)) (.int .u8 ((yn:Int) + (P:Int)))).drew) (w.heap.size + 1) u6 ((ini ++ [yb]).set (q - 1) (UInt8.ofNat (yn + P))) from hst.drew);have HR12:=h_ (show ((w8.setCell (adr u6 (q - 1)) (.int .u8 ((yn:Int) + (P:Int)))).drew).heap[w.heap.size]?=some (.cells #[.int .u64 (px:Int),.string ps] 57 (0,0)) from (Below.heap_setCell _ _ _ _ hnm).trans HR8.o);have HQ12:=h_ (show ((w8.setCell (adr u6 (q - 1)) (.int .u8 ((yn:Int) + (P:Int)))).drew).heap[gp]?=some (.cells #[.int .u64 (x:Int),.string s] 57 (0,0)) from (Below.heap_setCell _ _ _ _ hng).trans HQ8.o);have HG12:=h_ (show w.heap.size < gp/\gp < ((w8.setCell (adr u6 (q - 1)) (.int .u8 ((yn:Int) + (P:Int)))).drew).heap.size by have:=HG8.o;show w.heap.size < gp/\gp < (w8.setCell (adr u6 (q - 1)) (.int .u8 ((yn:Int) + (P:Int)))).heap.size;rw [World.size_setCell];exact this);have hfin:(ini ++ [yb]).set (q - 1) (UInt8.ofNat (yn + P))=wrC 2 ((cesL cs).take (k + 1)):=(by rw [HI3.o,HYN.o,HQ1.o,hP,HBr.o];simp);have HFin:=h_ hfin;clear hst hbel hnm hng hfin hP hbg hjr2;go_wp2_with fail;go_region;generalize ((w8.setCell (adr u6 (q - 1)) (.int .u8 ((yn:Int) + (P:Int)))).drew)=w12 at *;have HO9:=h_ (show Own w12 (w.heap.size + 1) u6 (wrC (2:Int) ((cesL cs).take (k + 1))) from HFin.o ▸ HO12.o);have e0:w12.cell? ⟨gp,0,none⟩=some (.int .u64 (x:Int)):=(by rw [cell_of_row _ _ _ _ _ _ HQ12.o];rfl);have e1:w12.cell? ⟨gp,1,none⟩=some (.string s):=(by rw [cell_of_row _ _ _ _ _ _ HQ12.o];rfl);have f0:w12.frozen? ⟨w.heap.size,0,none⟩=false:=frozen_of_row _ _ _ _ _ HR12.o;have f1:(w12.setCell ⟨w.heap.size,0,none⟩ (.int .u64 (x:Int))).frozen? ⟨w.heap.size,1,none⟩=false:=frozen_of_row _ _ _ _ _ (block_setCell HR12.o _);have c0:w12.cell? ⟨w.heap.size,0,none⟩=some (.int .u64 (px:Int)):=(by rw [cell_of_row _ _ _ _ _ _ HR12.o];rfl);have c1:(w12.setCell ⟨w.heap.size,0,none⟩ (.int .u64 (x:Int))).cell? ⟨w.heap.size,1,none⟩=some (.string ps):=(by rw [cell_of_row _ _ _ _ _ _ (block_setCell HR12.o _)];rfl);have HBe:=h_ (show Below w.heap.size w ((w12.setCell ⟨w.heap.size,0,none⟩ (.int .u64 (x:Int))).setCell ⟨w.heap.size,1,none⟩ (.string s)) from (HB12.setCell l_ _).setCell l_ _);have HOe:=h_ (show Own ((w12.setCell ⟨w.heap.size,0,none⟩ (.int .u64 (x:Int))).setCell ⟨w.heap.size,1,none⟩ (.string s)) (w.heap.size + 1) u6 (wrC (2:Int) ((cesL cs).take (k + 1))) from HO9.grown9 (za0 (za0 (World.grownBy.refl _ _) _) _) (fun q e9 e8=>zbN HO9.o HR12.o q e9 (by injection e8)));have HRe:=h_ (show ((w12.setCell ⟨w.heap.size,0,none⟩ (.int .u64 (x:Int))).setCell ⟨w.heap.size,1,none⟩ (.string s)).heap[w.heap.size]?=some (.cells #[.int .u64 ((lstB cs (k + 1)).1:Int),.string (lstB cs (k + 1)).2] 57 (0,0)) by rw [HLs.o];exact block_setCell (block_setCell HR12.o _) _);have HZe:=h_ (show w.heap.size + 1<=((w12.setCell ⟨w.heap.size,0,none⟩ (.int .u64 (x:Int))).setCell ⟨w.heap.size,1,none⟩ (.string s)).heap.size by rw [World.size_setCell,World.size_setCell];have:=HG12.o;omega);clear HO9 HO12 HB12 HR12 HQ12 HG12;go_wp2;go_roundw
   case rel=>exact ⟨k + 1,by omega,by go_num,HBe,HOe,HEk,HRe,HZe⟩
   simp [intOf];omega
  have hyb:((y:Int) != 0)=true:=by rw [bne_iff_ne];omega
  have HF:=h_ (show wrE (2:Int) (cesL cs)=y from by rw [HE.o,HA1.o (by rw [<- HT.o,<- HY.o];exact hy0)];rw [<- HT.o,<- HY.o]);clear HA1 HA2 hc0 hc1;go_wp2;go_ret2;exact ⟨_,by rw [HF.o];rfl,by rw [HF.o,if_neg hy0];exact zaG _ _,HB4.o⟩
 obtain rfl:k=n:=by omega
 have hka:(cesL cs).take k=cesL cs:=List.take_of_length_le (by rw [za6,<- HN.o];exact l_);have HF:=h_ (show wrE (2:Int) (cesL cs)=0 from by rw [HE.o,<- hka];exact HK0.o);have HO2:=h_ (show Own wr w.heap.size u6 (wrC (2:Int) (cesL cs)) by have:=HO.o;rw [hka] at this;exact this.base (by omega));clear hka hlt;go_wp2;go_ret2;exact ⟨_,by rw [HF.o];rfl,by rw [HF.o,if_pos rfl];exact HO2.o,HB.o⟩
theorem ref_Write09 (v:Value) (kind:Int) (cs:List CellB) (w:World) (hv:RdE w v cs) (hC:CES cs) (hk:-9223372036854775808<=kind/\kind<=9223372036854775807) (hs:10 * cs.length + sumT (cesL cs)<=1000000) :
  Calls prog 183 #[.int .i64 kind,v] w (WrK w kind cs):=by
 by_cases h0:kind < 0∨5 < kind
 ·have HE:=h_ (show wrE kind (cesL cs)=10 by unfold wrE;rw [if_pos h0]);by_cases h1:kind < 0
  ·have d1:decide (kind < 0)=true:=decide_eq_true h1;clear h0;go_enter func183,ntmps183;go_wp2;go_ret2;exact ⟨_,by rw [HE.o];rfl,by rw [HE.o,if_neg (by decide)];exact zaG _ _,Below.refl _ _⟩
  have d1:decide (kind < 0)=false:=decide_eq_false h1;have d2:decide (kind > 5)=true:=decide_eq_true (by omega);clear h0;go_enter func183,ntmps183;go_wp2;go_ret2;exact ⟨_,by rw [HE.o];rfl,by rw [HE.o,if_neg (by decide)];exact zaG _ _,Below.refl _ _⟩
 by_cases hc:kind=2∨kind=3∨kind=4
 ·rcases hc with rfl | h
  ·exact ref_Write09c v cs w hv hC (by omega) hs
  exact ref_Write09t kind h v cs w hv hC (by omega) hs
 exact ref_Write09b v kind cs w hv hC (by omega) (by omega) (by omega) (by omega) hs
