/- -/
import Derived.Test.YtlapgdocpndfiaaGreatDoorUColWo
import Derived.Deep.RegionWith
set_option maxHeartbeats 16000000
set_option linter.unusedVariables false
set_option linter.unusedSimpArgs false
set_option maxRecDepth 1000000
namespace Go.Proofs.YtlapgdocpndfiaaGreatDoor
open _root_.Go.Proofs.Tryz
open Go.RowKit
theorem RdE.rest {w:World} {v:Value} {c:CellB} {cs:List CellB} (h:RdE w v (c :: cs)) :
  ∃ v',(∀ u,(Instr.slice 84 v (some (.int .i64 1)) none none).run prog u=.ok v' u)/\RdE w v' cs:=by
 obtain ⟨v',h1,h2⟩:=RdG.from zcX h 1 (by simp);exact ⟨v',h1,h2 w h⟩
theorem zdB (kind : Int) (hk : kind = 1 ∨ kind = 5) (v : Value) (cs : List CellB) (w : World) (hv : RdE w v cs) (hC : CES cs) (hs : 10 * cs.length <= 1000000) :
    Calls prog 259 #[v] w (RetB w (wrC kind (cesL cs))) := by
 have hlen:=hv.len;cases cs with
 | nil =>
  rw [show cesL []=[] from rfl,zmL];have hlen:∀ u,(Builtin.len_ #[84] 3 #[v]).run prog u=.ok (.int .i64 0) u:=hlen;clear hv hC hs;go_enter func259,ntmps259;go_wp2;go_ret;exact ⟨_,rfl,zaT _ _,Below.refl _ _⟩
 | cons c r =>
  obtain ⟨b,o,hidx,hcell,hblk⟩:=hv.get (i:=0) (by simp);obtain ⟨hc0,hc1⟩:=hcell _ hv;obtain ⟨g1,g2⟩:=hC c (by simp);obtain ⟨sv,hsl,hrs⟩:=hv.rest;rcases c with ⟨x,s⟩
  have hc0:w.cell? ⟨b,o,none⟩=some (.int .u64 (x:Int)):=hc0;have hidx:∀ u,(Instr.indexAt 84 v (.int .i64 0)).run prog u=.ok (.pointer (some ⟨b,o,none⟩)) u:=hidx;dsimp only at g1;have hl0:((((x,s) :: r:List CellB).length:Nat):Int)=((r.length + 1:Nat):Int):=by rw [List.length_cons]
  rw [hl0] at hlen;have hne:(((r.length + 1:Nat):Int) == 0)=false:=by rw [beq_eq_false_iff_ne];omega
  obtain ⟨n,hn⟩:=nm_ (r.length + 1);rw [<- hn] at hlen hne
  have HU := Lib.hid (fun wz (hb : Below w.heap.size w wz) => show Calls prog 135 #[.int .u64 (x : Int)] wz fun e w' => ∃ v, e = .returned v /\ Own w' w.heap.size v (encU x) /\ Below w.heap.size w w' from (zcL (x : Int) (by omega) (by omega) wz).mono (by
    rintro e w' ⟨v, rfl, hO, hb'⟩
    exact ⟨v, rfl, hO.base hb.size, hb.trans (hb'.mono hb.size)⟩))
  have HA := Lib.hid (fun wz yv (hb : Below w.heap.size w wz) (hO : Own wz w.heap.size yv (encU x)) => zcW w yv (encU x) x g1 sv r wz hrs (fun c hc => hC c (by simp [hc])) hb hO (by
    have := zaC x (by omega); rw [List.length_cons] at hs; omega))
  have HW := Lib.hid (show wrC kind (cesL ((x, s) :: r)) = encU x ++ stp x (numL r) from by
    rw [<- zp7]; exact zvZ hk (ceL (x, s)) (cesL r))
  rw [HW.o];clear hv hC hs hcell hrs g2 hl0 hn HW;go_enter func259,ntmps259;go_wp2
  go_region_with (first
    | (go_at_call 135
       refine (HU.o _ ?hbu).mono ?_
       case hbu => exact (Below.refl _ _).drew
       rintro e w7 ⟨yv, rfl, hO7, hb7⟩)
    | (go_at_call 271
       refine (HA.o _ _ hb7 hO7).mono ?_
       rintro e w8 ⟨zv, rfl, hO8, hb8⟩))
  all_goals (
    have HO := Lib.hid hO8
    have HB := Lib.hid hb8
    clear hO8 hb8 hO7 hb7 HA HU
    go_wp2
    go_ret
    exact ⟨_, rfl, HO.o, HB.o⟩)
/- -/
theorem zEX {y x r:Nat} (hr:r < 8) (hy:y < 2 ^ r) (hx:x<=1):bits .or .u8 (y:Int) ((x:Int) * 2 ^ r % 256)=((UInt8.ofNat (y + 2 ^ r * x)).toNat:Int):=by
 have hp:2 ^ r<=2 ^ 7:=Nat.pow_le_pow_right (by decide) (by omega);have hm:2 ^ r * x<=2 ^ r * 1:=Nat.mul_le_mul_left _ hx;have hs:y + 2 ^ r * x < 256:=by
  have h2:2 ^ (r + 1)<=2 ^ 8:=Nat.pow_le_pow_right (by decide) (by omega);rw [Nat.pow_succ] at h2;omega
 have e:(x:Int) * 2 ^ r % 256=((2 ^ r * x:Nat):Int):=by
  have:((2 ^ r * x:Nat):Int)=(x:Int) * 2 ^ r:=by rw [Nat.mul_comm];simp
  rw [<- this];omega
 have h:=(bits_nat .u8 8 (by decide) wraps_u8 y (2 ^ r * x) (by omega) (by omega)).2;rw [e,h,UInt8.toNat_ofNat',Nat.mod_eq_of_lt hs,Nat.or_comm,<- Nat.two_pow_add_eq_or_of_lt hy,Nat.add_comm]
theorem zsG {cs:List CellB} {k:Nat} (hk:k<=cs.length):(wrC 2 ((cesL cs).take k)).length=(k + 7) / 8:=by
 unfold wrC;rw [if_pos rfl,zp6,List.length_map,List.length_take,za8,Nat.min_eq_left hk]
theorem zA6 {cs:List CellB} (hC:CES cs) (hE:errK 2 (cesL cs)=0) {M k:Nat} (hk:k < cs.length) (hM:(cs.length + 7) / 8=M) :
  ∃ y x:Nat,(cs.getD k default).1=x/\x<=1/\y < 2 ^ (k % 8)/\k / 8 < (wrC 2 ((cesL cs).take k) ++ List.replicate (M - (k + 7) / 8) 0).length/\((wrC 2 ((cesL cs).take k) ++ List.replicate (M - (k + 7) / 8) 0).getD (k / 8) 0).toNat=y /\
   (wrC 2 ((cesL cs).take k) ++ List.replicate (M - (k + 7) / 8) 0).set (k / 8) (UInt8.ofNat (y + 2 ^ (k % 8) * x))=wrC 2 ((cesL cs).take (k + 1)) ++ List.replicate (M - (k + 1 + 7) / 8) 0:=by
 have hEk:errK 2 ((cesL cs).take k)=0:=by
  apply Decidable.of_not_not;intro h;exact h ((zk0 h).symm.trans hE)
 have hf:=ziL hE (fun c hc=>ziP hC hc);have hin:ceL (cs.getD k default) ∈ cesL cs:=by
  rw [<- zkG hk];have e:(cesL cs).getD k default=(cesL cs)[k]'(by rw [za8];exact hk):=by simp [List.getD,za8,hk]
  rw [e];exact List.getElem_mem _
 have hx:=((hf _ hin).num (by decide)).2 rfl;have hl:=zsG (cs:=cs) (k:=k) (by omega);rcases hg:cs.getD k default with ⟨x,s⟩
 rw [hg] at hx;have hx:x<=1:=hx;obtain ⟨n1,n2⟩:=zw2 hC hk hEk hg hx;by_cases h8:k % 8=0
 ·have e1:=n1 h8;refine ⟨0,x,rfl,hx,Nat.two_pow_pos _,?_,?_,?_⟩
  ·rw [List.length_append,hl,List.length_replicate];omega
  ·unfold List.getD;rw [List.getElem?_append_right (by omega),List.getElem?_replicate];split <;> rfl
  rw [e1,h8,List.set_append_right _ _ (by omega),hl,show k / 8 - (k + 7) / 8=0 from by omega,show M - (k + 7) / 8=(M - (k + 1 + 7) / 8) + 1 from by omega,List.replicate_succ];simp
 obtain ⟨ini,y,i1,i2,i3⟩:=n2 h8;have hi:ini.length=k / 8:=by
  have:=congrArg List.length i1;rw [hl,List.length_append,List.length_singleton] at this;omega
 refine ⟨y.toNat,x,rfl,hx,i2,?_,?_,?_⟩
 ·rw [List.length_append,hl];omega
 ·rw [i1,List.append_assoc,<- hi];simp [List.getD]
 rw [i1,i3,<- hi,show (k + 1 + 7) / 8=(k + 7) / 8 from by omega];simp
theorem zh1 (v:Value) (cs:List CellB) (w:World) (hv:RdE w v cs) (hC:CES cs) (hE:errK 2 (cesL cs)=0) (hs:10 * cs.length<=1000000) :
  Calls prog 261 #[v] w (RetB w (wrC 2 (cesL cs))):=by
 have hlen:=hv.len;have hsm:=hv.small;obtain ⟨n,hn⟩:=nm_ cs.length;rw [<- hn] at hlen hsm hs;obtain ⟨M,hM⟩:=nm_ ((n + 7) / 8);have hmk:=zeL (((n:Int) + 8 - 1) / 8) (by omega) (by omega);rw [show (((n:Int) + 8 - 1) / 8).toNat=M from by omega] at hmk;have HN:=h_ hn;have HV:=h_ hv;have HC:=h_ hC;have HM:=h_ hM;have HE:=h_ hE;clear hv hC hn hM hE;go_enter func261,ntmps261;have HB0:=h_ (show Below w.heap.size w (w.alloc (.cells (za6 (List.replicate M 0)).toArray 5)) from (Below.refl _ w).alloc l_ _)
 have HO0:=h_ (show Own (w.alloc (.cells (za6 (List.replicate M 0)).toArray 5)) w.heap.size (.slice (some ⟨w.heap.size,0,none⟩) M M) (List.replicate M 0) from by
  have:=zn4 w w.heap.size l_ (List.replicate M 0) (by rw [List.length_replicate];have:=HM.o;unfold maxLen;omega)
  rw [List.length_replicate] at this
  exact this)
 go_wp2;generalize w.alloc (.cells (za6 (List.replicate M 0)).toArray 5)=w1 at *;obtain ⟨bv,hbv⟩:=nm_ (Value.slice (some ⟨w.heap.size,0,none⟩) M M);rw [<- hbv] at HO0 ⊢;clear hbv hmk;go_loopw [14] (fun i wr=>∃ k:Nat,k<=n/\i=.int .i64 k/\Hid (Below w.heap.size w wr)/\Hid (Own wr w.heap.size bv (wrC 2 ((cesL cs).take k) ++ List.replicate (M - (k + 7) / 8) 0))) (fun i _=>n - (intOf i).toNat)
 case atStart=>exact ⟨0,by omega,rfl,HB0,h_ (by rw [List.take_zero,zmL];exact HO0.o)⟩
 obtain ⟨k,hk,rfl,HB,HO⟩:=hrel;clear HB0 HO0;by_cases hlt:k < n
 ·have kl:k < cs.length:=by rw [<- HN.o];exact hlt
  have hr:=HV.later HB.o l_;obtain ⟨b,o,hidx,hcell,hblk⟩:=hr.get kl;obtain ⟨hc0,hc1⟩:=hcell _ hr;obtain ⟨y,x,hx,hx1,hy,hq,hyd,hset⟩:=zA6 (M:=M) HC.o HE.o kl (by rw [<- HN.o];exact HM.symm);rcases hcg:cs.getD k default with ⟨x',s⟩
  rw [hcg] at hx hc0 hc1;obtain rfl:x'=x:=hx;dsimp only at hc0 hc1;have hts:(wrC 2 ((cesL cs).take k) ++ List.replicate (M - (k + 7) / 8) 0).length<=140737488351232:=by
   rw [List.length_append,zsG (by omega),List.length_replicate];have:=HM.o;omega
  generalize wrC 2 ((cesL cs).take k) ++ List.replicate (M - (k + 7) / 8) 0=t at *;obtain ⟨hst,hfz,hbg⟩:=HO.set hq (UInt8.ofNat (y + 2 ^ (k % 8) * x'));have hrt:=HO.rd hts;have hix:=hrt.idx (k / 8) hq;have hcel:=hrt.cells (k / 8) hq;have hcl1:(wr.alloc (.cells #[.int .u64 (x':Int),.string s] 82)).cell? (adr bv (k / 8))=some (.int .u8 (at8 t (k / 8))):=by
   rw [World.cell?_of_block (w:=wr) (Below.heap_alloc _ _ _ (hrt.block hq))];exact hcel
  rw [show at8 t (k / 8)=(y:Int) from by unfold at8;rw [hyd]] at hcl1;rw [show ((k / 8:Nat):Int)=(k:Int) / 8 from by omega] at hix;have hfz1:(wr.alloc (.cells #[.int .u64 (x':Int),.string s] 82)).frozen? (adr bv (k / 8))=false:=by
   rw [World.frozen?_of_block (w:=wr) (Below.heap_alloc _ _ _ (hrt.block hq))];exact hfz
  have hor:=zEX (r:=k % 8) (by omega) hy hx1;have hst1:=(HO.alloc (.cells #[.int .u64 (x':Int),.string s] 82)).set hq (UInt8.ofNat (y + 2 ^ (k % 8) * x'));have hcb:zeU (UInt8.ofNat (y + 2 ^ (k % 8) * x'))=.int .u8 (((y:Int) + 2 ^ (k % 8) * (x':Int)) % 256):=by
   unfold zeU;rw [UInt8.toNat_ofNat'];simp
  rw [hset,hcb] at hst1;have HST:=h_ hst1.1;have HBG:=h_ hbg;have HB2:=h_ (((HB.alloc (o:=.cells #[.int .u64 (x':Int),.string s] 82) HB.size).setCell hbg (.int .u8 (((y:Int) + 2 ^ (k % 8) * (x':Int)) % 256))));clear hcb hcel hfz hst hset hcg hr hcell hyd hst1 hbg;go_wp2_with fail;go_region;go_wp2;go_roundw
  case rel=>exact ⟨k + 1,by omega,by go_num,h_ HB2.drew,h_ HST.drew⟩
  simp [intOf];omega
 obtain rfl:k=n:=by omega
 have hka:(cesL cs).take k=cesL cs:=List.take_of_length_le (by rw [za8,<- HN.o];exact l_)
 have HO2:=h_ (show Own wr w.heap.size bv (wrC 2 (cesL cs)) by
  have:=HO.o
  rw [hka,HM.o,Nat.sub_self,List.replicate_zero,List.append_nil] at this
  exact this)
 clear hka hlt;go_wp2;go_ret;exact ⟨_,rfl,HO2.o,HB.o⟩
/- -/
theorem zBO {kind:Int} {l:List Ce} {k:Nat} (h:errK kind l=0):errK kind (l.take k)=0:=by
 apply Decidable.of_not_not;intro h9;exact h9 ((zk0 h9).symm.trans h)
theorem zdC (kind:Int) (hk:kind=3∨kind=4) (v:Value) (cs:List CellB) (w:World) (hv:RdE w v cs) (hC:CES cs) (hE:errK kind (cesL cs)=0) (hs:10 * cs.length + sumT (cesL cs)<=1000000) :
  Calls prog 263 #[v] w (RetB w (wrC kind (cesL cs))):=by
 have hlen:=hv.len;have hsm:=hv.small;obtain ⟨n,hn⟩:=nm_ cs.length;rw [<- hn] at hlen hsm;have HN:=h_ hn;have HV:=h_ hv;have HC:=h_ hC;have HS:=h_ hs;have HE:=h_ hE;have HK:=h_ hk;have HB0:=h_ (Below.refl w.heap.size w);clear hv hC hs hn hE hk;go_enter func263,ntmps263;go_wp2;go_loopw [3,4,10] (fun b a i wr=>∃ k:Nat,k<=n/\i=.int .i64 k/\a=.string (lstB cs k).2/\Hid (Below w.heap.size w wr)/\Hid (Own wr w.heap.size b (wrC kind ((cesL cs).take k)))) (fun _ _ i _=>n - (intOf i).toNat)
 case atStart=>exact ⟨0,by omega,rfl,rfl,HB0,h_ (by rw [List.take_zero,zmL];exact zaT _ _)⟩
 clear HB0;obtain ⟨k,hk,rfl,rfl,HB,HO⟩:=hrel;by_cases hlt:k < n
 ·have kl:k < cs.length:=by rw [<- HN.o];exact hlt
  have hr:=HV.later HB.o l_;obtain ⟨b,o,hidx,hcell,hblk⟩:=hr.get kl;obtain ⟨hc0,hc1⟩:=hcell _ hr;obtain ⟨g1,g2⟩:=CES.get HC.o kl;have h2:kind≠2:=by rcases HK.o with h | h <;> omega
  have HNx:=h_ (zA4 h2 kl);have HLs:=h_ (show lstB cs (k + 1)=cs.getD k default from by unfold lstB;rw [if_neg (by omega),Nat.add_sub_cancel]);have hin:ceL (cs.getD k default) ∈ cesL cs:=by
   rw [<- zkG kl];have e:(cesL cs).getD k default=(cesL cs)[k]'(by rw [za8];exact kl):=(by simp [List.getD,za8,kl]);rw [e];exact List.getElem_mem _
  have hfit:=ziL HE.o (fun c hc=>ziP HC.o hc) _ hin;have HLen:=h_ (zw0 HC.o (zBO (k:=k) HE.o));have HLen:=h_ (show (wrC kind ((cesL cs).take k)).length<=1000000 by have:=HLen.o;have:=HS.o;omega);rcases hcg:cs.getD k default with ⟨x,s⟩
  rw [hcg] at HLs HNx hc0 hc1 g1 g2 hfit;dsimp only at hc0 hc1 g1 g2;have hS:=zeZ g2;obtain ⟨t,ht⟩:=nm_ s.data.toList;have HT:=h_ ht;rw [<- ht] at hS;have HSt:=h_ hS;rcases hlg:lstB cs k with ⟨px,ps⟩
  rw [hlg] at HNx;have HPS:=h_ (zeZ (zDT HC.o (show k<=cs.length by omega) hlg));obtain ⟨pl,hpl⟩:=nm_ ps.data.toList;have HPC:=h_ (show pc kind k (ceL (px,ps)) (ceL (x,s))=encU (shr pl t) ++ encB (t.drop (shr pl t)) by rw [zn2 HK.o];unfold ceL;rw [hpl,ht]);rw [<- hpl] at HPS;have hfl:t.length<=256:=by
   have:=(hfit.text HK.o).2.1;rw [show (ceL (x,s)).2=s.data.toList from rfl,<- ht] at this;exact this
  have hss:s.size=t.length:=HSt.size9;have HB6:=h_ (show Below w.heap.size w (wr.alloc (.cells #[.int .u64 (x:Int),.string s] 82)) from HB.alloc HB.size _);have HO6:=h_ (show Own (wr.alloc (.cells #[.int .u64 (x:Int),.string s] 82)) w.heap.size u3 (wrC kind ((cesL cs).take k)) from HO.alloc _);have HQ6:=h_ (show (wr.alloc (.cells #[.int .u64 (x:Int),.string s] 82)).heap[wr.heap.size]?=some (.cells #[.int .u64 (x:Int),.string s] 82 (0,0)) from heap_alloc_new _ _);have HG6:=h_ (show w.heap.size<=wr.heap.size/\wr.heap.size < (wr.alloc (.cells #[.int .u64 (x:Int),.string s] 82)).heap.size by rw [World.size_alloc];have:=HB.size;omega);clear hr hcell hcg hlg hpl ht hS hin hfit g2 HB HO h2;go_wp2_with fail;generalize (wr.alloc (.cells #[.int .u64 (x:Int),.string s] 82))=w6 at *;generalize wr.heap.size=gp at *;refine (zgD ps s pl t _ HPS.o HSt.o).mono ?_;rintro e w62 ⟨rfl,hb⟩;have HB62:=bT HB6 hb;have HO62:=h_ (HO6.later hb l_);have HQ62:=h_ ((hb.block gp (by have:=HG6.o;omega)).trans HQ6.o);have HG62:=h_ (show w.heap.size<=gp/\gp < w62.heap.size by have:=HG6.o;have:=hb.size;omega);clear hb HB6 HO6 HQ6 HG6;obtain ⟨hN1,hN2⟩:=zsZ pl t;obtain ⟨N,hN⟩:=nm_ (shr pl t);rw [<- hN] at hN1 hN2 HPC ⊢;have hle:=h_ (zaC N (by omega));clear hN;go_wp2_with fail;refine (zcL (N:Int) (by omega) (by omega) _).mono ?_;rintro e w7 ⟨yv,rfl,hO7,hb⟩;rw [Int.toNat_natCast] at hO7;have HB7:=bT HB62 hb;have HO7:=h_ (HO62.later hb l_);have HQ7:=h_ ((hb.block gp (by have:=HG62.o;omega)).trans HQ62.o);have HG7:=h_ (show w.heap.size<=gp/\gp < w7.heap.size by have:=HG62.o;have:=hb.size;omega);have hY:=hO7.rd (by have:=hle.o;omega);have HY7:=h_ hY;clear hb hO7 hY HB62 HO62 HQ62 HG62;go_wp2_with (with_reducible refine wpl_append w.heap.size _ _ ?hs HO7.o _ (encU N) ?hx HY7.o ?hn ?hbase w.heap.size w HB7.o l_ ?_)
  case hs=>rfl
  case hx=>rfl
  case hn=>have:=HLen.o;have:=hle.o;omega
  case hbase=>have:=HG7.o;omega
  intro v8 w8 hO8 hB8 hg8;have HB8:=h_ hB8;have HO8:=h_ hO8;have HQ8:=h_ ((hg8.block gp (by have:=HG7.o;omega) (fun e=>zy0 HO7.o HQ7.o _ e.symm rfl)).trans HQ7.o);have HG8:=h_ (show w.heap.size<=gp/\gp < w8.heap.size by have:=HG7.o;have:=hg8.size;omega);clear hO8 hB8 hg8 HO7 HB7 HQ7 HG7 HY7;have e1:w8.cell? ⟨gp,1,none⟩=some (.string s):=by rw [cell_of_row _ _ _ _ _ _ HQ8.o];rfl
  have HS2:=h_ (HSt.dropS N);obtain ⟨bv,w9,hrun,hRd,hb⟩:=zeF HS2.o w8;rw [hss] at hrun;have HB9:=bT HB8 hb;have HO9:=h_ (HO8.later hb l_);have HQ9:=h_ ((hb.block gp (by have:=HG8.o;omega)).trans HQ8.o);have HG9:=h_ (show w.heap.size<=gp/\gp < w9.heap.size by have:=HG8.o;have:=hb.size;omega);clear hb HB8 HO8 HQ8 HG8;have HRd:=h_ hRd;have hll:(t.drop N).length<=256:=by rw [List.length_drop];omega
  have hlb:=h_ (show (encB (t.drop N)).length<=10 + 256 by rw [zc0];have:=zaC (t.drop N).length (by omega);omega);clear hRd hll;go_wp2_with fail;refine (zgK bv (t.drop N) w9 HRd.o).mono ?_;rintro e w10 ⟨y2,rfl,hO10,hb⟩;have HB10:=bT HB9 hb;have HO10:=h_ (HO9.later hb l_);have HQ10:=h_ ((hb.block gp (by have:=HG9.o;omega)).trans HQ9.o);have HG10:=h_ (show w.heap.size<=gp/\gp < w10.heap.size by have:=HG9.o;have:=hb.size;omega);have hY:=hO10.rd (by have:=hlb.o;omega);have HY10:=h_ hY;clear hb hO10 hY HB9 HO9 HQ9 HG9;go_wp2_with (with_reducible refine wpl_append w.heap.size _ _ ?hs HO10.o _ (encB (t.drop N)) ?hx HY10.o ?hn ?hbase w.heap.size w HB10.o l_ ?_)
  case hs=>rfl
  case hx=>rfl
  case hn=>have:=HLen.o;have:=hlb.o;rw [List.length_append];have:=hle.o;omega
  case hbase=>have:=HG10.o;omega
  intro v11 w11 hO11 hB11 hg11;have HB11:=h_ hB11;have HQ11:=h_ ((hg11.block gp (by have:=HG10.o;omega) (fun e=>zy0 HO10.o HQ10.o _ e.symm rfl)).trans HQ10.o);have HO9:=h_ (show Own w11 w.heap.size v11 (wrC kind ((cesL cs).take (k + 1))) from by rw [HNx.o,HPC.o,<- List.append_assoc];exact hO11);clear hO11 hB11 hg11 HO10 HB10 HQ10 HG10 HY10;have e1:w11.cell? ⟨gp,1,none⟩=some (.string s):=by rw [cell_of_row _ _ _ _ _ _ HQ11.o];rfl
  have HLs2:=h_ (show Value.string s=.string (lstB cs (k + 1)).2 by rw [HLs.o]);clear HQ11;go_wp2;go_roundw
  case rel=>exact ⟨k + 1,by omega,by go_num,HLs2.o,HB11,HO9⟩
  simp [intOf];omega
 obtain rfl:k=n:=by omega
 have hka:(cesL cs).take k=cesL cs:=List.take_of_length_le (by rw [za8,<- HN.o];exact l_);have HO2:=h_ (show Own wr w.heap.size u3 (wrC kind (cesL cs)) by have:=HO.o;rw [hka] at this;exact this);clear hka hlt;go_wp2;go_ret;exact ⟨_,rfl,HO2.o,HB.o⟩
