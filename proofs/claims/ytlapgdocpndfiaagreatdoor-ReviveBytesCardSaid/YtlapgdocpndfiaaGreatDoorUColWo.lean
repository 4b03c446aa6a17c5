/- -/
import Derived.Test.YtlapgdocpndfiaaGreatDoorUColSh
set_option maxHeartbeats 16000000
set_option linter.unusedVariables false
set_option linter.unusedSimpArgs false
set_option maxRecDepth 1000000
namespace Go.Proofs.YtlapgdocpndfiaaGreatDoor
open _root_.Go.Proofs.Tryz
open Go.RowKit
theorem zgD (s t:ByteArray) (l m:Bs) (w:World) (h1:RdS s l) (h2:RdS t m) :
  Calls prog 273 #[.string s,.string t] w fun e w'=>e=.returned (.int .i64 (shr l m:Nat))/\Below w.heap.size w w':=by
 have hlen1:=h1.len;have hlen2:=h2.len;have hi1:=h1.idx;have hi2:=h2.idx;have hs1:=h1.small;have hs2:=h2.small;have hb0:=h_ (Below.refl w.heap.size w);obtain ⟨p,hp⟩:=nm_ l.length;obtain ⟨q,hq⟩:=nm_ m.length;rw [<- hp] at hlen1 hs1 hi1;rw [<- hq] at hlen2 hs2 hi2;have HP:=h_ hp;have HQ:=h_ hq;obtain ⟨n,hn⟩:=nm_ (min p q:Nat);have hn1:n<=p:=by omega
 have hn2:n<=q:=by omega
 have hn3:n=p∨n=q:=by omega
 have hif:(if (q:Int) < (p:Int) then (q:Int) else (p:Int))=(n:Int):=by split <;> omega
 have hmn:∀ u,(Builtin.min_ #[3,3] 3 #[.int .i64 (p:Int),.int .i64 (q:Int)]).run prog u=.ok (.int .i64 (n:Int)) u:=by
  intro u;rw [<- hif];rfl
 have HN3:=h_ hn3;clear hp hq h1 h2 hn hn3 hif;go_enter func273,ntmps273;go_wp2;go_loopw [13] (fun i wr=>∃ k:Nat,k<=n/\i=.int .i64 k/\Hid (l.take k=m.take k)/\Hid (Below w.heap.size w wr)) (fun i _=>n - (intOf i).toNat)
 case atStart=>exact ⟨0,by omega,rfl,h_ rfl,hb0⟩
 obtain ⟨k,hk,rfl,HT,HB⟩:=hrel;clear hb0;have HE:=h_ (fun h=>zCJ (l:=l) (m:=m) (k:=k) (by rw [<- HP.o];omega) (by rw [<- HQ.o];omega) HT.o h);by_cases h1:k < n
 ·have k1:k < p:=by omega
  have k2:k < q:=by omega
  have HN:=h_ (fun h=>zsY (l:=l) (m:=m) (k:=k) (by rw [<- HP.o];exact k1) (by rw [<- HQ.o];exact k2) HT.o h);have x1:=hi1 k k1;have x2:=hi2 k k2;obtain ⟨c,hc⟩:∃ c:Nat,at8 l k=(c:Int):=⟨(l.getD k 0).toNat,rfl⟩;obtain ⟨d,hd⟩:∃ d:Nat,at8 m k=(d:Int):=⟨(m.getD k 0).toNat,rfl⟩;have hcc:(l.getD k 0).toNat=c:=by unfold at8 at hc;omega
  have hdd:(m.getD k 0).toNat=d:=by unfold at8 at hd;omega
  have HC:=h_ hcc;have HD:=h_ hdd;rw [hc] at x1;rw [hd] at x2;clear hcc hdd hc hd hi1 hi2 k1 k2;by_cases he:c=d
  ·have HN2:=h_ (HN.o (UInt8.toNat_inj.1 (by rw [HC.o,HD.o,he])));subst he;clear HE HN HC HD;have hq:((c:Int) != (c:Int))=false:=(by simp);go_wp2;go_quiet (fail);go_wp2;go_roundw
   case rel=>exact ⟨k + 1,by omega,by go_num,HN2,h_ (Go.below_drewN HB.o _)⟩
   simp [intOf];omega
  have HE2:=h_ (HE.o (fun _ _ h=>he (by rw [<- HC.o,<- HD.o,h])));have hq:((c:Int) != (d:Int))=true:=by simp;omega
  clear HE HN HC HD he;go_wp2;go_quiet (fail);go_wp2;go_ret;exact ⟨by rw [HE2.o];rfl,Go.below_drewN HB.o _⟩
 obtain rfl:k=n:=by omega
 have HE2:=h_ (HE.o (fun h9 h8=>absurd HN3.o (by rw [HP.o,HQ.o];omega)));clear HE hi1 hi2;go_wp2;go_ret;exact ⟨by rw [HE2.o];rfl,HB.o⟩
def numL (cs:List CellB):List Nat:=cs.map (·.1)
theorem zfD (cs:List CellB):(numL cs).length=cs.length:=by unfold numL;rw [List.length_map]
theorem zyB (cs:List CellB) (k:Nat) (hk:k < cs.length):(numL cs).take (k + 1)=(numL cs).take k ++ [(cs.getD k default).1]:=by
 rw [zaE (by rw [zfD];exact hk) 0];unfold numL;simp [List.getD,hk]
theorem zp7 (cs:List CellB):(cesL cs).map (fun c=>c.1)=numL cs:=by
 unfold cesL numL ceL;rw [List.map_map];rfl
theorem zcW (w0:World) (bv:Value) (lb:Bs) (a0:Nat) (ha0:a0 < 18446744073709551616) (v:Value) (cs:List CellB) (w:World) (hv:RdE w0 v cs) (hC:CES cs) (hb0:Below w0.heap.size w0 w) (hO:Own w w0.heap.size bv lb) (hs:lb.length + 10 * cs.length<=1000000) :
  Calls prog 271 #[bv,.int .u64 (a0:Int),v] w fun e w'=>∃ b,e=.returned b/\Own w' w0.heap.size b (lb ++ stp a0 (numL cs))/\Below w0.heap.size w0 w':=by
 have hlen:=hv.len;have hsm:=hv.small;obtain ⟨n,hn⟩:=nm_ cs.length;rw [<- hn] at hlen hsm;have HN:=h_ hn;have HV:=h_ hv;have HC:=h_ hC;have HS:=h_ hs;have HB0:=h_ hb0;have HO0:=h_ hO;clear hv hC hs hn hb0 hO;go_enter func271,ntmps271;go_wp2;go_loopw [0,1,11] (fun b a i wr=>∃ k px:Nat,k<=n/\i=.int .i64 k/\a=.int .u64 (px:Int)/\Hid (px=zpC a0 ((numL cs).take k))/\Hid (Below w0.heap.size w0 wr)/\Hid (Own wr w0.heap.size b (lb ++ stp a0 ((numL cs).take k)))) (fun _ _ i _=>n - (intOf i).toNat)
 case atStart=>exact ⟨0,a0,by omega,rfl,rfl,h_ rfl,HB0,h_ (by rw [List.take_zero,stp,List.append_nil];exact HO0.o)⟩
 clear HB0 HO0 ha0;obtain ⟨k,px,hk,rfl,rfl,HP,HB,HO⟩:=hrel;by_cases hlt:k < n
 ·have kl:k < cs.length:=by rw [<- HN.o];exact hlt
  have hr:=HV.later HB.o l_;obtain ⟨b,o,hidx,hcell,hblk⟩:=hr.get kl;obtain ⟨hc0,hc1⟩:=hcell _ hr;obtain ⟨g1,g2⟩:=CES.get HC.o kl;have hcl:=zyB cs k kl;rcases hcg:cs.getD k default with ⟨x,s⟩
  rw [hcg] at hc0 hc1 g1 hcl;dsimp only at hc0 hc1 g1 hcl;have HCL:=h_ hcl
  have HLen:=h_ (show (lb ++ stp a0 ((numL cs).take k)).length<=1000000 by
   have:=zCH a0 ((numL cs).take k)
   have h9:=HS.o
   rw [List.length_take,zfD] at this
   rw [List.length_append];omega)
  obtain ⟨z,hz⟩:=nm_ (wrap64 (IntKind.u64.wrap ((x:Int) - px)));have hz9:z=wrap64 ((x:Int) - px):=by rw [hz,IntKind.wrap_u64];unfold wrap64;omega
  have HSt9:=h_ (show stepZ px x=zig z by unfold stepZ;rw [hz9]);have hzr:-9223372036854775808<=z/\z<=9223372036854775807:=by rw [hz9];unfold wrap64;omega
  have HZr:=h_ hzr;have HWz:=h_ hz.symm;have HB6:=h_ (show Below w0.heap.size w0 (wr.alloc (.cells #[.int .u64 (x:Int),.string s] 82)) from HB.alloc HB.size _);have HO6:=h_ (show Own (wr.alloc (.cells #[.int .u64 (x:Int),.string s] 82)) w0.heap.size u0 (lb ++ stp a0 ((numL cs).take k)) from HO.alloc _);have HQ6:=h_ (show (wr.alloc (.cells #[.int .u64 (x:Int),.string s] 82)).heap[wr.heap.size]?=some (.cells #[.int .u64 (x:Int),.string s] 82 (0,0)) from heap_alloc_new _ _);have HG6:=h_ (show w0.heap.size<=wr.heap.size/\wr.heap.size < (wr.alloc (.cells #[.int .u64 (x:Int),.string s] 82)).heap.size by rw [World.size_alloc];have:=HB.size;omega);clear hz9 hzr hz hr hcell hcg hcl g2 HB HO;go_wp2_with fail;rw [HWz.o];generalize (wr.alloc (.cells #[.int .u64 (x:Int),.string s] 82))=w6 at *;generalize wr.heap.size=gp at *;refine (zsI z (HZr.o).1 (HZr.o).2 _).mono ?_;rintro e w7 ⟨yv,rfl,hO7,hb⟩;have HB7:=bT HB6 hb;have HO7:=h_ (HO6.later hb l_);have HQ7:=h_ ((hb.block gp (by have:=HG6.o;omega)).trans HQ6.o);have HG7:=h_ (show w0.heap.size<=gp/\gp < w7.heap.size by have:=HG6.o;have:=hb.size;omega);have hY:=hO7.rd (by have:=zaC (zig z) (ziQ z (HZr.o).1 (HZr.o).2);omega);have HY7:=h_ hY;clear hb hO7 hY HB6 HO6 HQ6 HG6;go_wp2_with (with_reducible refine wpl_append w0.heap.size _ _ ?hs HO7.o _ (encU (zig z)) ?hx HY7.o ?hn ?hbase w0.heap.size w0 HB7.o l_ ?_)
  case hs=>rfl
  case hx=>rfl
  case hn=>have:=HLen.o;have:=zaC (zig z) (ziQ z (HZr.o).1 (HZr.o).2);omega
  case hbase=>have:=HG7.o;omega
  intro v8 w8 hO8 hB8 hg8;have HB8:=h_ hB8;have HQ8:=h_ ((hg8.block gp (by have:=HG7.o;omega) (fun e=>zy0 HO7.o HQ7.o _ e.symm rfl)).trans HQ7.o);have HO9:=h_ (show Own w8 w0.heap.size v8 (lb ++ stp a0 ((numL cs).take (k + 1))) from by rw [HCL.o,zsW,<- HP.o,HSt9.o,<- List.append_assoc];exact hO8);have HP9:=h_ (show x=zpC a0 ((numL cs).take (k + 1)) from by rw [HCL.o,zlU]);have e0:w8.cell? ⟨gp,0,none⟩=some (.int .u64 (x:Int)):=by rw [cell_of_row _ _ _ _ _ _ HQ8.o];rfl
  clear hO8 hB8 hg8 HO7 HB7 HQ7 HG7 HY7 hc0 hc1;go_wp2;go_roundw
  case rel=>exact ⟨k + 1,x,by omega,by go_num,rfl,HP9,HB8,HO9⟩
  simp [intOf];omega
 obtain rfl:k=n:=by omega
 have hka:(numL cs).take k=numL cs:=List.take_of_length_le (by rw [zfD,<- HN.o];exact l_);have HO2:=h_ (show Own wr w0.heap.size u0 (lb ++ stp a0 (numL cs)) by have:=HO.o;rw [hka] at this;exact this);clear hka hlt;go_wp2;go_ret;exact ⟨_,rfl,HO2.o,HB.o⟩
theorem zi3 (v:Value) (cs:List CellB) (w:World) (hv:RdE w v cs) (hC:CES cs) (hs:10 * cs.length<=1000000) :
  Calls prog 257 #[v] w (RetB w (wrC 0 (cesL cs))):=by
 have HA:=h_ (zcW w (.slice none 0 0) [] 0 (by decide) v cs w hv hC (Below.refl _ _) (zaT _ _) (by simpa using hs));rw [zA5,zp7];clear hv hC hs;go_enter func257,ntmps257;go_wp2_with fail;refine HA.mono ?_;rintro e w1 ⟨b,rfl,hO,hb⟩;rw [List.nil_append] at hO;have HO:=h_ hO;have HB:=h_ hb;clear hO hb HA;go_wp2;go_ret;exact ⟨_,rfl,HO.o,HB.o⟩
