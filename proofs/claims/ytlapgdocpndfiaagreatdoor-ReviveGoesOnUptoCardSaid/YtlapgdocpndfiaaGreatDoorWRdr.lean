/- -/
import Derived.Defers
import Derived.Recover
import Derived.RegionTactic
import Derived.BigRegion
import Derived.Lib.Builder
import Derived.Test.YtlapgdocpndfiaaGreatDoorWSchW
set_option maxHeartbeats 4000000
set_option linter.unusedVariables false
set_option linter.unusedSimpArgs false
set_option maxRecDepth 1000000
namespace Go.Proofs.YtlapgdocpndfiaaGreatDoor
open _root_.Go.Proofs.Tryz
open Go.RowKit
def rdU (l:Bs) (k most:Nat):Nat × Nat × Nat :=
 if (getU (l.drop k)).2.2≠0 then (0,k,(getU (l.drop k)).2.2)
 else if most < (getU (l.drop k)).1 then (0,k,3)
 else ((getU (l.drop k)).1,k + (getU (l.drop k)).2.1,0)
def rdB (l:Bs) (k:Nat) (most:Int):Bs × Nat × Nat :=
 if (getB (l.drop k) most).2.2≠0 then ([],k,(getB (l.drop k) most).2.2)
 else ((getB (l.drop k) most).1,k + (getB (l.drop k) most).2.1,0)
theorem zp3 (l:Bs) (most:Int):(getB l most).2.1<=l.length/\(getB l most).2.2<=13/\((getB l most).2.2≠0->(getB l most).1=[]/\(getB l most).2.1=0):=by
 have hg:=zbE l;have hc:=zgO l;unfold getB;split
 ·rename_i h;exact ⟨by simp,by simp;omega,fun _=>⟨rfl,rfl⟩⟩
 split
 ·exact ⟨by simp,by simp,fun _=>⟨rfl,rfl⟩⟩
 split
 ·exact ⟨by simp,by simp,fun _=>⟨rfl,rfl⟩⟩
 rename_i h0 h1 h2;have h0':(getU l).2.2=0:=Decidable.of_not_not h0;obtain ⟨_,h3,h4,h5⟩:=hg h0';exact ⟨by simp;omega,by simp,fun h=>absurd rfl h⟩
theorem zB6 {l:Bs} {k most:Nat} (hk:k<=l.length) (h:(rdU l k most).2.2=0) :
  (getU (l.drop k)).2.2=0/\¬ most < (getU (l.drop k)).1/\rdU l k most=((getU (l.drop k)).1,k + (getU (l.drop k)).2.1,0)/\(rdU l k most).2.1<=l.length/\(rdU l k most).1 < 2 ^ 64:=by
 unfold rdU at h ⊢;by_cases h1:(getU (l.drop k)).2.2=0
 ·rw [if_neg (fun h=>h h1)] at h ⊢;by_cases h2:most < (getU (l.drop k)).1
  ·rw [if_pos h2] at h;exact absurd h (by simp)
  rw [if_neg h2];obtain ⟨h3,h4,h5,h6⟩:=zbE _ h1;simp only [List.length_drop] at h5;exact ⟨h1,h2,rfl,by dsimp only;omega,h3⟩
 rw [if_pos h1] at h;exact absurd h h1
structure Rdr (w:World) (g:Nat) (v:Value) (l:Bs) (k:Nat):Prop where
 blk:w.heap[g]?=some (.cells #[v,.int .i64 (k:Int),.bool true,.int .i64 0,.int .i64 0] 291 (0,0))
 le:k<=l.length
 rd:Rd w v l
 off:∀ i,i < l.length->(adr v i).block≠g
structure zi6 (w:World) (g:Nat) (v:Value) (l:Bs) (k x:Nat):Prop where
 blk:w.heap[g]?=some (.cells #[v,.int .i64 (k:Int),.bool true,.int .i64 (x:Int),.int .i64 (k:Int)] 291 (0,0))
 le:k<=l.length
def Shut (w:World) (g:Nat):Prop:=∃ a b c d,w.heap[g]?=some (.cells #[a,b,.bool false,c,d] 291 (0,0))
def zaS (g:Nat) (x:Nat):Value:=.iface 294 (.agg #[.pointer (some ⟨g,0,none⟩)])
theorem Rdr.lt {w:World} {g:Nat} {v:Value} {l:Bs} {k:Nat} (h:Rdr w g v l k):g < w.heap.size:=(Array.getElem?_eq_some_iff.1 h.blk).1
theorem Rdr.cell0 {w:World} {g:Nat} {v:Value} {l:Bs} {k:Nat} (h:Rdr w g v l k):w.cell? ⟨g,0,none⟩=some v:=by rw [cell_of_row _ _ _ _ _ _ h.blk];rfl
theorem Rdr.cell1 {w:World} {g:Nat} {v:Value} {l:Bs} {k:Nat} (h:Rdr w g v l k):w.cell? ⟨g,1,none⟩=some (.int .i64 k):=by rw [cell_of_row _ _ _ _ _ _ h.blk];rfl
theorem Rdr.cell2 {w:World} {g:Nat} {v:Value} {l:Bs} {k:Nat} (h:Rdr w g v l k):w.cell? ⟨g,2,none⟩=some (.bool true):=by rw [cell_of_row _ _ _ _ _ _ h.blk];rfl
theorem Rdr.cell3 {w:World} {g:Nat} {v:Value} {l:Bs} {k:Nat} (h:Rdr w g v l k):w.cell? ⟨g,3,none⟩=some (.int .i64 0):=by rw [cell_of_row _ _ _ _ _ _ h.blk];rfl
theorem Rdr.cell4 {w:World} {g:Nat} {v:Value} {l:Bs} {k:Nat} (h:Rdr w g v l k):w.cell? ⟨g,4,none⟩=some (.int .i64 0):=by rw [cell_of_row _ _ _ _ _ _ h.blk];rfl
theorem Rdr.free {w:World} {g:Nat} {v:Value} {l:Bs} {k:Nat} (h:Rdr w g v l k) (i:Nat):w.frozen? ⟨g,i,none⟩=false:=frozen_of_row _ _ _ _ _ h.blk
theorem Rd.same {w w':World} {v:Value} {l:Bs} (h:Rd w v l) (hs:∀ i,i < l.length->w'.heap[(adr v i).block]?=w.heap[(adr v i).block]?):Rd w' v l :=
 ⟨h.shape,fun i hi=>(World.cell?_of_block (hs i hi)).trans (h.cells i hi),h.small⟩
theorem Rdr.same {w w':World} {g:Nat} {v:Value} {l:Bs} {k:Nat} (h:Rdr w g v l k) (hg:w'.heap[g]?=w.heap[g]?) (hs:∀ i,i < l.length->w'.heap[(adr v i).block]?=w.heap[(adr v i).block]?):Rdr w' g v l k :=
 ⟨hg.trans h.blk,h.le,h.rd.same hs,h.off⟩
theorem Rdr.set {w:World} {g:Nat} {v:Value} {l:Bs} {k:Nat} (h:Rdr w g v l k) {n:Nat} (hn:n<=l.length):Rdr (w.setCell ⟨g,1,none⟩ (.int .i64 n)) g v l n :=
 ⟨block_setCell h.blk _,hn,h.rd.same fun i hi=>Below.heap_setCell _ _ _ _ (h.off i hi),h.off⟩
theorem Rdr.later {w w':World} {g:Nat} {v:Value} {l:Bs} {k B:Nat} (h:Rdr w g v l k) (hb:Below B w w') (hB:w.heap.size<=B):Rdr w' g v l k :=
 h.same (hb.block _ (Nat.lt_of_lt_of_le h.lt hB)) fun i hi=>hb.block _ (Nat.lt_of_lt_of_le (h.rd.block hi) hB)
theorem Rdr.setVar {w:World} {g:Nat} {v:Value} {l:Bs} {k:Nat} (h:Rdr w g v l k) {p:Addr} (hp:p.block≠g) (hv:∀ i,i < l.length->(adr v i).block≠p.block) (u:Value):Rdr (w.setCell p u) g v l k :=
 h.same (Below.heap_setCell _ _ _ _ (fun e=>hp e.symm)) fun i hi=>Below.heap_setCell _ _ _ _ (hv i hi)
theorem Rdr.alloc {w:World} {g:Nat} {v:Value} {l:Bs} {k:Nat} (h:Rdr w g v l k) (o:Obj):Rdr (w.alloc o) g v l k :=
 h.later ((Below.refl _ _).alloc l_ o) l_
def Reads (w:World) (g:Nat) (v:Value) (l:Bs) (val:Value) (k' x:Nat) (e:Ending) (w':World):Prop :=
 w.grownBy w' (some g)/\((x=0/\e=.returned val/\Rdr w' g v l k')∨(x≠0/\e=.panicked [{ v:=zaS g x,recovered:=false }]/\zi6 w' g v l k' x))
theorem Reads.ok {w w':World} {g:Nat} {v val:Value} {l:Bs} {k' x:Nat} {e:Ending} (h:Reads w g v l val k' x e w') (hx:x=0):e=.returned val/\w.grownBy w' (some g)/\Rdr w' g v l k':=by
 rcases h with ⟨h1,⟨_,h2,h3⟩ | ⟨h2,_⟩⟩
 ·exact ⟨h2,h1,h3⟩
 exact absurd hx h2
theorem Reads.no {w w':World} {g:Nat} {v val:Value} {l:Bs} {k' x:Nat} {e:Ending} (h:Reads w g v l val k' x e w') (hx:x≠0):e=.panicked [{ v:=zaS g x,recovered:=false }]/\w.grownBy w' (some g)/\zi6 w' g v l k' x:=by
 rcases h with ⟨h1,⟨h2,_⟩ | ⟨_,h2,h3⟩⟩
 ·exact absurd h2 hx
 exact ⟨h2,h1,h3⟩
theorem zaZ (g:Nat) (v:Value) (l:Bs) (k:Nat) (w:World) (hR:Rdr w g v l k) :
  Calls prog 215 #[.pointer (some ⟨g,0,none⟩)] w fun e w'=>e=.returned (.bool false)/\w=w':=by
 have c2:=hR.cell2;clear hR;go_enter func215,ntmps215;go_wp2;go_ret;exact ⟨rfl,rfl⟩
theorem zjC (g:Nat) (v:Value) (l:Bs) (k x:Nat) (w:World) (hR:Rdr w g v l k) :
  Calls prog 246 #[.pointer (some ⟨g,0,none⟩),.int .i64 (x:Int)] w fun e w'=>e=.panicked [{ v:=zaS g x,recovered:=false }]/\w.grownBy w' (some g)/\zi6 w' g v l k x:=by
 have c1:=hR.cell1;have c3:=hR.cell3;have c4:=hR.cell4;have f3:=hR.free 3;have f4:=hR.free 4;have HR:=h_ hR;have hG:w.grownBy ((w.setCell ⟨g,3,none⟩ (.int .i64 (x:Int))).setCell ⟨g,4,none⟩ (.int .i64 (k:Int))) (some g):=za8 (za8 (World.grownBy.refl _ _) _) _;have HG:=h_ hG;clear hG;clear hR;go_enter func246,ntmps246;go_wp2;exact ⟨rfl,rfl,HG.o,⟨block_setCell (block_setCell HR.blk _) _,HR.le⟩⟩
theorem below_grown {w w':World} (h:Below w.heap.size w w') (r:Option Nat):w.grownBy w' r:=⟨h.os,h.tape,h.output,h.size,fun j hj _=>h.block j hj⟩
theorem _root_.Go.World.grownBy.trans_drew {w w':World} {r:Option Nat} (h:w.grownBy w' r):w.grownBy w'.drew r:=⟨h.os,h.tape,h.output,h.size,h.block⟩
theorem zcY (w:World) (r:Option Nat):w.grownBy w.drew r:=⟨rfl,rfl,rfl,l_,fun _ _ _=>rfl⟩
theorem Rdr.drew {w:World} {g:Nat} {v:Value} {l:Bs} {k:Nat} (h:Rdr w g v l k):Rdr w.drew g v l k:=⟨h.blk,h.le,h.rd.drew,h.off⟩
theorem zd8 (g:Nat) (v:Value) (l:Bs) (k:Nat) (w:World) (hR:Rdr w g v l k) :
  Calls prog 245 #[.pointer (some ⟨g,0,none⟩)] w fun e w'=>e=.returned (.int .i64 ((l.length - k:Nat):Int))/\Below w.heap.size w w':=by
 have c0:=hR.cell0;have c1:=hR.cell1;have hlen:=hR.rd.len;have hsm:=hR.rd.small;have hle:=hR.le;have hsub:(l.length:Int) - k=((l.length - k:Nat):Int):=by omega
 go_enter func245,ntmps245;go_wp2_with fail;refine (zaZ _ _ _ _ _ hR).mono ?_;rintro e w1 ⟨rfl,rfl⟩;clear hR;go_wp2;go_region;go_wp2;go_ret;exact ⟨rfl,(Below.refl _ _).drew⟩
theorem zaC (p:Value) (w:World) (x:Int) :
  Calls prog 212 #[p,.bool true,.int .i64 x] w fun e w'=>e=.returned (.tuple #[])/\w=w':=by
 go_enter func212,ntmps212;go_wp2;go_end0;exact ⟨rfl,rfl⟩
theorem zaB (g:Nat) (v:Value) (l:Bs) (k:Nat) (w:World) (hR:Rdr w g v l k) (x:Nat) (hx:x≠0) :
  Calls prog 212 #[.pointer (some ⟨g,0,none⟩),.bool false,.int .i64 (x:Int)] w fun e w'=>e=.panicked [{ v:=zaS g x,recovered:=false }]/\w.grownBy w' (some g)/\zi6 w' g v l k x:=by
 have hne:((x:Int) != 0)=true:=by simp;omega
 go_enter func212,ntmps212;go_wp2_with fail;refine (zaZ _ _ _ _ _ hR).mono ?_;rintro e w1 ⟨rfl,rfl⟩;go_wp2_with fail;refine (zjC g v l k x _ hR).mono ?_;rintro e w2 ⟨rfl,hg,hE⟩;clear hR;go_wp2;exact ⟨rfl,rfl,hg,hE⟩
theorem zjE (g:Nat) (v:Value) (l:Bs) (k:Nat) (w:World) (hR:Rdr w g v l k) :
  Calls prog 214 #[.pointer (some ⟨g,0,none⟩)] w (Reads w g v l (.int .u8 (if k < l.length then at8 l k else 0)) (if k < l.length then k + 1 else k) (if k < l.length then 0 else 5)):=by
 have hsm:=hR.rd.small;have hle:=hR.le;by_cases hk:k < l.length
 ·simp only [if_pos hk];have hz:((((l.length - k:Nat):Int) == 0)=false):=by simp;omega
  go_enter func214,ntmps214;go_wp2_with fail;refine (zaZ _ _ _ _ _ hR).mono ?_;rintro e w1 ⟨rfl,rfl⟩;go_wp2_with fail;refine (zd8 _ _ _ _ _ hR).mono ?_;rintro e w1 ⟨rfl,hb1⟩;have hR1:=hR.later hb1 l_;have c1:=hR1.cell1;have f1:=hR1.free 1;have hS:=hR1.set (n:=k + 1) (by omega);have d0:=hS.cell0;have d1:=hS.cell1;have hidx:=hS.rd.idx k hk;have hcel:=hS.rd.cells k hk;have hg:w.grownBy (w1.setCell ⟨g,1,none⟩ (.int .i64 ((k + 1:Nat):Int))) (some g):=za8 (below_grown hb1 _) _;have HS:=h_ hS;have HG:=h_ hg;have hk1:(k:Int) + 1 - 1=(k:Int):=by omega
  clear hR hR1 hS hg hb1;rw [show ((k + 1:Nat):Int)=(k:Int) + 1 from by omega] at *;go_wp2;go_region;go_wp2;go_ret;exact ⟨HG.trans_drew,.inl ⟨rfl,rfl,HS.drew⟩⟩
 simp only [if_neg hk];obtain rfl:k=l.length:=by omega
 have hz:((((l.length - l.length:Nat):Int) == 0)=true):=by simp
 go_enter func214,ntmps214;go_wp2_with fail;refine (zaZ _ _ _ _ _ hR).mono ?_;rintro e w1 ⟨rfl,rfl⟩;go_wp2_with fail;refine (zd8 _ _ _ _ _ hR).mono ?_;rintro e w1 ⟨rfl,hb1⟩;have hR1:=hR.later hb1 l_;clear hR;go_wp2_with fail;refine (zjC g v l _ 5 _ hR1).mono ?_;rintro e w2 ⟨rfl,hg2,hE⟩;clear hR1;go_wp2;exact ⟨rfl,(below_grown hb1 _).trans hg2,.inr ⟨by decide,rfl,hE⟩⟩
theorem zbS (g:Nat) (v:Value) (l:Bs) (k:Nat) (w:World) (hR:Rdr w g v l k) (most:Nat) (hm:most < 18446744073709551616) :
  Calls prog 165 #[.pointer (some ⟨g,0,none⟩),.int .u64 (most:Int)] w (Reads w g v l (.int .u64 ((rdU l k most).1:Int)) (rdU l k most).2.1 (rdU l k most).2.2):=by
 have hsm:=hR.rd.small;have hle:=hR.le;have hR0:=hR.drew;have c0:∀ x:Ord.GW w.drew,x.val.cell? ⟨g,0,none⟩=some v:=fun x=>(hR0.later x.grew l_).cell0;have c1:∀ x:Ord.GW w.drew,x.val.cell? ⟨g,1,none⟩=some (.int .i64 k):=fun x=>(hR0.later x.grew l_).cell1;obtain ⟨vb,hsl,hrd⟩:=hR.rd.from k hle;have hg:=zbE (l.drop k);rcases hr:getU (l.drop k) with ⟨x,n,er⟩
 rw [hr] at hg;dsimp only at hg;have HU:=h_ hr;by_cases he:er=0
 ·subst he;obtain ⟨hx,hn1,hn2,hn3⟩:=hg rfl;simp only [List.length_drop] at hn2;by_cases hx2:most < x
  ·have hd:rdU l k most=(0,k,3):=(by unfold rdU;rw [hr];dsimp only;rw [if_neg (by simp),if_pos hx2]);rw [hd];dsimp only;have hle2:decide (x<=most)=false:=(by simp;omega);clear hr hd;go_enter func165,ntmps165;go_wp2_with fail;refine (zaZ _ _ _ _ _ hR).mono ?_;rintro e w1 ⟨rfl,rfl⟩;go_wp2_with fail;refine OrdR.wp_region_ord Ord.way [(0,false),(1,false),(2,false),(3,false),(4,false),(5,false),(6,false),(7,false),(8,false),(9,true),(10,false),(11,false),(12,false),(13,false),(14,false),(15,false),(16,false)] (by kernel_rfl) rfl (by kernel_rfl) (by kernel_rfl) (fun _ _ _ d _ h=>by cases d <;> exact h) ?_;iterate 9 (refine OrdR.ord_still rfl rfl (by kernel_rfl) (fun K hK=>?_);go_big_quiet_op;refine hK _ ?_;clear hK K)
   refine OrdR.ord_loud rfl (by kernel_rfl) (fun K hK=>?_);go_big_op;refine (zaV _ _ _ (hrd _ (hR.rd.drew))).mono ?_;rintro e w1 ⟨rfl,rfl⟩;rw [HU.o];refine hK _ _ (Ord.Grew.refl _) ?_;clear hK K;iterate 7 (refine OrdR.ord_still rfl rfl (by kernel_rfl) (fun K hK=>?_);go_big_quiet_op;refine hK _ ?_;clear hK K)
   refine OrdR.ord_nil ?_;clear c0 c1;go_wp2_with fail;refine (zaC _ _ _).mono ?_;rintro e w2 ⟨rfl,rfl⟩;go_wp2_with fail;refine (zaB g v l k _ hR0 3 (by decide)).mono ?_;rintro e w2 ⟨rfl,hg2,hE⟩;clear hR hR0;go_wp2;exact ⟨rfl,(zcY _ _).trans hg2,.inr ⟨by decide,rfl,hE⟩⟩
  have hd:rdU l k most=(x,k + n,0):=by unfold rdU;rw [hr];dsimp only;rw [if_neg (by simp),if_neg hx2]
  rw [hd];dsimp only;have hle2:decide (x<=most)=true:=by simp;omega
  clear hr hd;have hS:=hR0.set (n:=k + n) (by omega);have hgs:w.grownBy (w.drew.setCell ⟨g,1,none⟩ (.int .i64 ((k + n:Nat):Int))) (some g):=za8 (zcY _ _) _;have d1:=hR0.cell1;have f1:=hR0.free 1;have HS:=h_ hS;have HG:=h_ hgs;clear hS hgs;rw [show ((k + n:Nat):Int)=(k:Int) + (n:Int) from by omega] at *;go_enter func165,ntmps165;go_wp2_with fail;refine (zaZ _ _ _ _ _ hR).mono ?_;rintro e w1 ⟨rfl,rfl⟩;go_wp2_with fail;refine OrdR.wp_region_ord Ord.way [(0,false),(1,false),(2,false),(3,false),(4,false),(5,false),(6,false),(7,false),(8,false),(9,true),(10,false),(11,false),(12,false),(13,false),(14,false),(15,false),(16,false)] (by kernel_rfl) rfl (by kernel_rfl) (by kernel_rfl) (fun _ _ _ d _ h=>by cases d <;> exact h) ?_;iterate 9 (refine OrdR.ord_still rfl rfl (by kernel_rfl) (fun K hK=>?_);go_big_quiet_op;refine hK _ ?_;clear hK K)
  refine OrdR.ord_loud rfl (by kernel_rfl) (fun K hK=>?_);go_big_op;refine (zaV _ _ _ (hrd _ (hR.rd.drew))).mono ?_;rintro e w1 ⟨rfl,rfl⟩;rw [HU.o];refine hK _ _ (Ord.Grew.refl _) ?_;clear hK K;iterate 7 (refine OrdR.ord_still rfl rfl (by kernel_rfl) (fun K hK=>?_);go_big_quiet_op;refine hK _ ?_;clear hK K)
  refine OrdR.ord_nil ?_;clear c0 c1;iterate 2 (go_wp2_with fail;refine (zaC _ _ _).mono ?_;rintro e w2 ⟨rfl,rfl⟩)
  clear hR hR0;go_wp2;go_ret;exact ⟨HG.o,.inl ⟨rfl,rfl,HS.o⟩⟩
 have hd:rdU l k most=(0,k,er):=by unfold rdU;rw [hr];dsimp only;rw [if_pos he]
 rw [hd];dsimp only;have hne':((er:Int) == 0)=false:=by simp;omega
 clear hr hd;go_enter func165,ntmps165;go_wp2_with fail;refine (zaZ _ _ _ _ _ hR).mono ?_;rintro e w1 ⟨rfl,rfl⟩;go_wp2_with fail;refine OrdR.wp_region_ord Ord.way [(0,false),(1,false),(2,false),(3,false),(4,false),(5,false),(6,false),(7,false),(8,false),(9,true),(10,false),(11,false),(12,false),(13,false),(14,false),(15,false),(16,false)] (by kernel_rfl) rfl (by kernel_rfl) (by kernel_rfl) (fun _ _ _ d _ h=>by cases d <;> exact h) ?_;iterate 9 (refine OrdR.ord_still rfl rfl (by kernel_rfl) (fun K hK=>?_);go_big_quiet_op;refine hK _ ?_;clear hK K)
 refine OrdR.ord_loud rfl (by kernel_rfl) (fun K hK=>?_);go_big_op;refine (zaV _ _ _ (hrd _ (hR.rd.drew))).mono ?_;rintro e w1 ⟨rfl,rfl⟩;rw [HU.o];refine hK _ _ (Ord.Grew.refl _) ?_;clear hK K;iterate 7 (refine OrdR.ord_still rfl rfl (by kernel_rfl) (fun K hK=>?_);go_big_quiet_op;refine hK _ ?_;clear hK K)
 refine OrdR.ord_nil ?_;clear c0 c1;go_wp2_with fail;refine (zaB g v l k _ hR0 er he).mono ?_;rintro e w2 ⟨rfl,hg2,hE⟩;clear hR hR0;go_wp2;exact ⟨rfl,(zcY _ _).trans hg2,.inr ⟨he,rfl,hE⟩⟩
theorem zDW {l:Bs} {k:Nat}:(rdU l k 18446744073709551615).1 < 2 ^ 64:=by
 unfold rdU;split
 ·simp
 split
 ·simp
 rename_i h _;exact (zbE _ (Decidable.of_not_not h)).1
theorem zlN (g:Nat) (v:Value) (l:Bs) (k:Nat) (w:World) (hR:Rdr w g v l k) :
  Calls prog 218 #[.pointer (some ⟨g,0,none⟩)] w (Reads w g v l (.int .i64 (zag (rdU l k 18446744073709551615).1)) (rdU l k 18446744073709551615).2.1 (rdU l k 18446744073709551615).2.2):=by
 have hx:=zDW (l:=l) (k:=k);rcases hr:rdU l k 18446744073709551615 with ⟨x,n,er⟩
 rw [hr] at hx;dsimp only at hx ⊢;have HR:=h_ hr;clear hr;go_enter func218,ntmps218;go_wp2_with fail;refine (zbS g v l k _ hR 18446744073709551615 (by decide)).mono ?_;rw [HR.o];dsimp only;rintro e w1 h;by_cases he:er=0
 ·obtain ⟨rfl,hg1,hR1⟩:=h.ok he;go_wp2_with fail;refine (zyW (x:Int) (by omega) (by omega) _).mono ?_;rintro e w2 ⟨rfl,rfl⟩;go_wp2;go_ret;exact ⟨hg1,.inl ⟨he,rfl,hR1⟩⟩
 obtain ⟨rfl,hg1,hR1⟩:=h.no he;go_wp2;exact ⟨rfl,hg1,.inr ⟨he,rfl,hR1⟩⟩
def zBK (w:World) (g:Nat) (v:Value) (l:Bs) (r:Bs × Nat × Nat) (e:Ending) (w':World):Prop :=
 ∃ val,Reads w g v l val r.2.1 r.2.2 e w'/\(r.2.2=0->Own w' w.heap.size val r.1)
theorem zh8 (g:Nat) (v:Value) (l:Bs) (k:Nat) (w:World) (hR:Rdr w g v l k) (most:Int) (hm:-9223372036854775808<=most/\most<=9223372036854775807) :
  Calls prog 213 #[.pointer (some ⟨g,0,none⟩),.int .i64 most] w (zBK w g v l (rdB l k most)):=by
 have hsm:=hR.rd.small;have hle:=hR.le;have hR0:=hR.drew;have c0:∀ x:Ord.GW w.drew,x.val.cell? ⟨g,0,none⟩=some v:=fun x=>(hR0.later x.grew l_).cell0;have c1:∀ x:Ord.GW w.drew,x.val.cell? ⟨g,1,none⟩=some (.int .i64 k):=fun x=>(hR0.later x.grew l_).cell1;obtain ⟨vb,hsl,hrd⟩:=hR.rd.from k hle;have hg:=zp3 (l.drop k) most;rcases hr:getB (l.drop k) most with ⟨x,n,er⟩
 rw [hr] at hg;dsimp only at hg;obtain ⟨hn2,hn3,_⟩:=hg;simp only [List.length_drop] at hn2;have HU:=h_ hr;by_cases he:er=0
 ·subst he;have hd:rdB l k most=(x,k + n,0):=by unfold rdB;rw [hr];dsimp only;rw [if_neg (by simp)]
  rw [hd];clear hr hd;go_enter func213,ntmps213;go_wp2_with fail;refine (zaZ _ _ _ _ _ hR).mono ?_;rintro e w1 ⟨rfl,rfl⟩;go_wp2_with fail;refine OrdR.wp_region_ord Ord.way [(0,false),(1,false),(2,false),(3,false),(4,false),(5,false),(6,false),(7,false),(8,false),(9,false),(10,true),(11,false),(12,false),(13,false),(14,false),(15,false),(16,false),(17,false)] (by kernel_rfl) rfl (by kernel_rfl) (by kernel_rfl) (fun _ _ _ d _ h=>by cases d <;> exact h) ?_;iterate 10 (refine OrdR.ord_still rfl rfl (by kernel_rfl) (fun K hK=>?_);go_big_quiet_op;refine hK _ ?_;clear hK K)
  refine OrdR.ord_loud rfl (by kernel_rfl) (fun K hK=>?_);go_big_op;refine (zb9 _ _ most hm.1 hm.2 _ (hrd _ (hR.rd.drew))).mono ?_;rintro e w1 ⟨v1,rfl,ho1,hb1⟩;rw [HU.o] at ho1 ⊢;dsimp only at ho1 ⊢;refine hK _ _ hb1 ?_;clear hK K;iterate 7 (refine OrdR.ord_still rfl rfl (by kernel_rfl) (fun K hK=>?_);go_big_quiet_op;refine hK _ ?_;clear hK K)
  refine OrdR.ord_nil ?_;clear c0 c1;go_wp2_with fail;refine (zaC _ _ _).mono ?_;rintro e w2 ⟨rfl,rfl⟩;have hR1:=hR0.later hb1 l_;have hS:=hR1.set (n:=k + n) (by omega);have hgs:w.grownBy (w1.setCell ⟨g,1,none⟩ (.int .i64 ((k + n:Nat):Int))) (some g):=za8 ((zcY w _).trans (below_grown hb1 _)) _;have hO:Own (w1.setCell ⟨g,1,none⟩ (.int .i64 ((k + n:Nat):Int))) w.heap.size v1 x:=ownsRow_setCell_below ho1 (a:=⟨g,1,none⟩) hR.lt _;have d1:=hR1.cell1;have f1:=hR1.free 1;have HS:=h_ hS;have HG:=h_ hgs;clear hS hgs hR hR0 hR1 ho1 hb1;rw [show ((k + n:Nat):Int)=(k:Int) + (n:Int) from by omega] at *;go_wp2;go_ret;exact ⟨_,⟨HG.o,.inl ⟨rfl,rfl,HS.o⟩⟩,fun _=>hO⟩
 have hd:rdB l k most=([],k,er):=by unfold rdB;rw [hr];dsimp only;rw [if_pos he]
 rw [hd];have hne:((er:Int) == 0)=false:=by simp;omega
 clear hr hd;go_enter func213,ntmps213;go_wp2_with fail;refine (zaZ _ _ _ _ _ hR).mono ?_;rintro e w1 ⟨rfl,rfl⟩;go_wp2_with fail;refine OrdR.wp_region_ord Ord.way [(0,false),(1,false),(2,false),(3,false),(4,false),(5,false),(6,false),(7,false),(8,false),(9,false),(10,true),(11,false),(12,false),(13,false),(14,false),(15,false),(16,false),(17,false)] (by kernel_rfl) rfl (by kernel_rfl) (by kernel_rfl) (fun _ _ _ d _ h=>by cases d <;> exact h) ?_;iterate 10 (refine OrdR.ord_still rfl rfl (by kernel_rfl) (fun K hK=>?_);go_big_quiet_op;refine hK _ ?_;clear hK K)
 refine OrdR.ord_loud rfl (by kernel_rfl) (fun K hK=>?_);go_big_op;refine (zb9 _ _ most hm.1 hm.2 _ (hrd _ (hR.rd.drew))).mono ?_;rintro e w1 ⟨v1,rfl,ho1,hb1⟩;rw [HU.o] at ho1 ⊢;dsimp only at ho1 ⊢;refine hK _ _ hb1 ?_;clear hK K;iterate 7 (refine OrdR.ord_still rfl rfl (by kernel_rfl) (fun K hK=>?_);go_big_quiet_op;refine hK _ ?_;clear hK K)
 refine OrdR.ord_nil ?_;clear c0 c1;go_wp2_with fail;refine (zaB g v l k _ (hR0.later hb1 l_) er he).mono ?_;rintro e w2 ⟨rfl,hg2,hE⟩;clear hR hR0;go_wp2;exact ⟨rfl,.slice none 0 0,⟨((zcY w _).trans (below_grown hb1 _)).trans hg2,.inr ⟨he,rfl,hE⟩⟩,fun h=>absurd h he⟩
/- -/
theorem zr5:(prog.info? 291).isSome=true:=by kernel_rfl
theorem zzN (a:Addr) (u:World):(binOp .neq 247 (.pointer (some a)) (.pointer (some a))).run prog u=.ok (.bool false) u:=by
 obtain ⟨j,hj⟩:=Option.isSome_iff_exists.1 zr5;exact Lib.run_neq_ptr_same u a underlying247 hj
theorem zl8 (g:Nat) (v:Value) (l:Bs) (k:Nat) (w:World) (hR:Rdr w g v l k) (y:Nat) (hy:(if k < l.length then 7 else 0)=y) :
  Calls prog 211 #[.pointer (some ⟨g,0,none⟩)] w fun e w'=>e=.returned (.tuple #[.int .i64 (k:Int),.int .i64 (y:Int)])/\Below w.heap.size w w':=by
 have c3:=hR.cell3;have hle:=hR.le;by_cases hk:k < l.length
 ·have hgt:((l.length - k:Nat):Int) > 0:=by omega
  rw [if_pos hk] at hy;subst hy;go_enter func211,ntmps211;go_wp2_with fail;refine (zd8 _ _ _ _ _ hR).mono ?_;rintro e w1 ⟨rfl,hb⟩;have c1:=(hR.later hb l_).cell1;clear hR c3;go_wp2;go_ret2;exact ⟨rfl,hb⟩
 have hgt:¬ ((l.length - k:Nat):Int) > 0:=by omega
 rw [if_neg hk] at hy;subst hy;go_enter func211,ntmps211;go_wp2_with fail;refine (zd8 _ _ _ _ _ hR).mono ?_;rintro e w1 ⟨rfl,hb⟩;have c1:=(hR.later hb l_).cell1;clear hR c3;go_wp2;go_ret2;exact ⟨rfl,hb⟩
theorem znO (g:Nat) (v:Value) (l:Bs) (k x:Nat) (w:World) (hx:x≠0) (hE:zi6 w g v l k x) :
  Calls prog 211 #[.pointer (some ⟨g,0,none⟩)] w fun e w'=>e=.returned (.tuple #[.int .i64 (k:Int),.int .i64 (x:Int)])/\Below w.heap.size w w':=by
 have c3:w.cell? ⟨g,3,none⟩=some (.int .i64 x):=by rw [cell_of_row _ _ _ _ _ _ hE.blk];rfl
 have c4:w.cell? ⟨g,4,none⟩=some (.int .i64 k):=by rw [cell_of_row _ _ _ _ _ _ hE.blk];rfl
 have hne:((x:Int) != 0)=true:=by simp;omega
 clear hE;go_enter func211,ntmps211;go_wp2;go_region;go_wp2;go_ret2;exact ⟨rfl,(Below.refl _ _).drew⟩
def Told (B k y:Nat) (w w':World):Prop :=
 w'.heap[B]?=some (.cells #[.int .i64 (k:Int)] 3 (0,0))/\w'.heap[B + 1]?=some (.cells #[.int .i64 (y:Int)] 28 (0,0))/\Shut w' (B + 2)/\Only (fun j=>B<=j/\j < B + 4) w w'
theorem Told.later {B k y:Nat} {w w1 w2:World} (h:Told B k y w w1) (hb:Below w1.heap.size w1 w2) (hs:B + 2 < w1.heap.size):Told B k y w w2:=by
 obtain ⟨h1,h2,⟨a,b,c,d,h3⟩,h4⟩:=h;exact ⟨(hb.block _ (by omega)).trans h1,(hb.block _ (by omega)).trans h2,⟨a,b,c,d,(hb.block _ hs).trans h3⟩,h4.below hb l_⟩
/-- Run's deferred closure in a frame that returns. -/
theorem zzF (B : Nat) (v : Value) (l : Bs) (k y : Nat) (hy : (if k < l.length then 7 else 0) = y) (w : World) (hr : w.heap[B + 3]? = some (.cells #[.pointer (some ⟨B + 2, 0, none⟩)] 247 (0, 0)))
    (hn : w.heap[B]? = some (.cells #[.int .i64 0] 3 (0, 0))) (he : w.heap[B + 1]? = some (.cells #[.int .i64 0] 28 (0, 0))) (hR : Rdr w (B + 2) v l k) :
    CallsD prog 210 #[.pointer (some ⟨B + 3, 0, none⟩), .pointer (some ⟨B, 0, none⟩), .pointer (some ⟨B + 1, 0, none⟩)] .returning w fun r u' w' =>
      r = .returned (.tuple #[]) /\ u' = .returning /\ Told B k y w w' := by
 have hr0:=cell_of_one hr;have hlt:B + 3 < w.heap.size:=(Array.getElem?_eq_some_iff.1 hr).1;refine callsD_of_wpS func210 rfl fun c₀ cs hu=>?_
 simp only [ntmps210, List.size_toArray, List.length_cons, List.length_nil, Nat.reduceAdd, Nat.reduceSub, Array.replicate_succ,
    Array.replicate_zero, List.push_toArray, List.append_toArray, List.nil_append, List.cons_append]
 apply wpS_seq;apply wpS_of_wp;go_wp2_with fail;refine (zl8 _ _ _ _ _ hR y hy).mono ?_;rintro e w1 ⟨rfl,hb1⟩;have hr1:=(hb1.block _ (by omega)).trans hr;have hn1:=(hb1.block _ (by omega)).trans hn;have he1:=(hb1.block _ (by omega)).trans he;have hR1:=(hb1.block _ (by omega)).trans hR.blk;have hbB:Only (fun j=>B<=j/\j < B + 4) w w1:=(Only.refl _ _).below hb1 (Nat.le_refl _);clear hr hn he hR hb1 hr0;have n0:=cell_of_one hn1;have n1:=free_of_one hn1;have e0:=cell_of_one he1;have e1:=free_of_one he1;have r0:=cell_of_one hr1;have HR:=Lib.hid hr1;have HN:=Lib.hid hn1;have HE:=Lib.hid he1;have HD:=Lib.hid hR1;have HB:=Lib.hid hbB;clear hr1 hn1 he1 hR1 hbB;go_wp2;simp only [Exit.thenS];obtain ⟨w2,hw2⟩:=nm_ ((w1.setCell ⟨B,0,none⟩ (.int .i64 (k:Int))).setCell ⟨B + 1,0,none⟩ (.int .i64 (y:Int)));have n2:w2.heap[B]?=some (.cells #[.int .i64 (k:Int)] 3 (0,0)):=by rw [hw2];exact (Below.heap_setCell _ ⟨B + 1,0,none⟩ _ _ (by simp)).trans (one_setCell HN.o)
 have e2:w2.heap[B + 1]?=some (.cells #[.int .i64 (y:Int)] 28 (0,0)):=by rw [hw2];exact one_setCell ((Below.heap_setCell _ ⟨B,0,none⟩ _ _ (by simp)).trans HE.o)
 have r2:=(Below.heap_setCell (w1.setCell ⟨B,0,none⟩ (.int .i64 (k:Int))) ⟨B + 1,0,none⟩ (.int .i64 (y:Int)) (B + 3) (by simp)).trans ((Below.heap_setCell w1 ⟨B,0,none⟩ (.int .i64 (k:Int)) (B + 3) (by simp)).trans HR.o);have d2:=(Below.heap_setCell (w1.setCell ⟨B,0,none⟩ (.int .i64 (k:Int))) ⟨B + 1,0,none⟩ (.int .i64 (y:Int)) (B + 2) (by simp)).trans ((Below.heap_setCell w1 ⟨B,0,none⟩ (.int .i64 (k:Int)) (B + 2) (by simp)).trans HD.o);have b2:Only (fun j=>B<=j/\j < B + 4) w w2:=by rw [hw2];exact (HB.setCell (p:=⟨B,0,none⟩) (by dsimp only;omega) _).setCell (p:=⟨B + 1,0,none⟩) (by dsimp only;omega) _
 rw [<- hw2] at r2 d2 ⊢;clear hw2 n0 n1 e0 e1 r0 HR HN HE HD HB;have r0:=cell_of_one r2;have c0:w2.cell? ⟨B + 2,0,none⟩=some v:=by rw [cell_of_row _ _ _ _ _ _ d2];rfl
 have c1:w2.cell? ⟨B + 2,1,none⟩=some (.int .i64 k):=by rw [cell_of_row _ _ _ _ _ _ d2];rfl
 have c2:w2.cell? ⟨B + 2,2,none⟩=some (.bool true):=by rw [cell_of_row _ _ _ _ _ _ d2];rfl
 have c3:w2.cell? ⟨B + 2,3,none⟩=some (.int .i64 0):=by rw [cell_of_row _ _ _ _ _ _ d2];rfl
 have c4:w2.cell? ⟨B + 2,4,none⟩=some (.int .i64 0):=by rw [cell_of_row _ _ _ _ _ _ d2];rfl
 have f0:w2.frozen? ⟨B + 2,0,none⟩=false:=frozen_of_row _ _ _ _ _ d2;have f1:w2.frozen? ⟨B + 2,1,none⟩=false:=frozen_of_row _ _ _ _ _ d2;have f2:w2.frozen? ⟨B + 2,2,none⟩=false:=frozen_of_row _ _ _ _ _ d2;have f3:w2.frozen? ⟨B + 2,3,none⟩=false:=frozen_of_row _ _ _ _ _ d2;have f4:w2.frozen? ⟨B + 2,4,none⟩=false:=frozen_of_row _ _ _ _ _ d2;have HR:=Lib.hid r2;have HN:=Lib.hid n2;have HE:=Lib.hid e2;have HD:=Lib.hid d2;have HB:=Lib.hid b2;clear r2 n2 e2 d2 b2;apply wpS_seq;apply wpS_of_wp;go_wp2;simp only [Exit.thenS];obtain ⟨w3,hw3⟩:=nm_ (((((w2.setCell ⟨B + 2,0,none⟩ (.slice none 0 0)).setCell ⟨B + 2,1,none⟩ (.int .i64 0)).setCell ⟨B + 2,2,none⟩ (.bool false)).setCell ⟨B + 2,3,none⟩ (.int .i64 0)).setCell ⟨B + 2,4,none⟩ (.int .i64 0));rw [<- hw3];have old:∀ j,j≠B + 2->w3.heap[j]?=w2.heap[j]?:=fun j hj=>by
  rw [hw3,Below.heap_setCell _ _ _ _ hj,Below.heap_setCell _ _ _ _ hj,Below.heap_setCell _ _ _ _ hj,Below.heap_setCell _ _ _ _ hj,Below.heap_setCell _ _ _ _ hj]
 have d3:w3.heap[B + 2]?=some (.cells #[.slice none 0 0,.int .i64 0,.bool false,.int .i64 0,.int .i64 0] 291 (0,0)):=by
  rw [hw3];exact block_setCell (block_setCell (block_setCell (block_setCell (block_setCell HD.o _) _) _) _) _
 have hbel:Only (fun j=>B<=j/\j < B + 4) w w3:=by
  rw [hw3];exact ((((HB.setCell (p:=⟨B + 2,0,none⟩) (by dsimp only;omega) _).setCell (p:=⟨B + 2,1,none⟩) (by dsimp only;omega) _).setCell (p:=⟨B + 2,2,none⟩) (by dsimp only;omega) _).setCell (p:=⟨B + 2,3,none⟩) (by dsimp only;omega) _).setCell (p:=⟨B + 2,4,none⟩) (by dsimp only;omega) _
 have r3:=(old (B + 3) (by omega)).trans HR.o;have n3:=(old B (by omega)).trans HN.o;have e3:=(old (B + 1) (by omega)).trans HE.o;have hT:Told B k y w w3:=⟨n3,e3,⟨_,_,_,_,d3⟩,hbel⟩;clear hw3 old d3 hbel n3 e3 HR HN HE HD HB r0 c0 c1 c2 c3 c4 f0 f1 f2 f3 f4;have r0:=cell_of_one r3;have HR:=Lib.hid r3;have HT:=Lib.hid hT;clear r3 hT;apply wpS_seq;apply wpS_region;simp [wpOpsS,go_sem,recoverD,hu,Exit.thenS];apply wpS_of_wp;go_wp2;exact ⟨rfl,_,by cases c₀;simp_all,_,results_none rfl _ _ _,rfl,rfl,HT.o⟩
/-- .. in a frame that panics with the reader's own end. -/
theorem zw1 (B : Nat) (v : Value) (l : Bs) (k y : Nat) (hx : y ≠ 0) (w : World) (hr : w.heap[B + 3]? = some (.cells #[.pointer (some ⟨B + 2, 0, none⟩)] 247 (0, 0)))
    (hn : w.heap[B]? = some (.cells #[.int .i64 0] 3 (0, 0))) (he : w.heap[B + 1]? = some (.cells #[.int .i64 0] 28 (0, 0))) (hR : zi6 w (B + 2) v l k y) :
    CallsD prog 210 #[.pointer (some ⟨B + 3, 0, none⟩), .pointer (some ⟨B, 0, none⟩), .pointer (some ⟨B + 1, 0, none⟩)] (.panicking [{ v := zaS (B + 2) y, recovered := false }]) w fun r u' w' =>
      r = .returned (.tuple #[]) /\ u' = .panicking [{ v := zaS (B + 2) y, recovered := true }] /\ Told B k y w w' := by
 have hpp:=zzN ⟨B + 2,0,none⟩;have hta:∀ (u:World),(Instr.typeAssert (.iface 294 (.agg #[.pointer (some ⟨B + 2,0,none⟩)])) 20 294 true).run prog u=.ok (.tuple #[.agg #[.pointer (some ⟨B + 2,0,none⟩)],.bool true]) u:=fun u=>by kernel_rfl
 have hin:∀ (u:World),(binOp .eql 20 (.iface 294 (.agg #[.pointer (some ⟨B + 2,0,none⟩)])) .nilIface).run prog u=.ok (.bool false) u:=fun u=>rfl;have hr0:=cell_of_one hr;have hlt:B + 3 < w.heap.size:=(Array.getElem?_eq_some_iff.1 hr).1;refine callsD_of_wpS func210 rfl fun c₀ cs hu=>?_
 simp only [ntmps210, List.size_toArray, List.length_cons, List.length_nil, Nat.reduceAdd, Nat.reduceSub, Array.replicate_succ,
    Array.replicate_zero, List.push_toArray, List.append_toArray, List.nil_append, List.cons_append]
 apply wpS_seq;apply wpS_of_wp;go_wp2_with fail;refine (znO _ _ _ _ _ _ hx hR).mono ?_;rintro e w1 ⟨rfl,hb1⟩;have hr1:=(hb1.block _ (by omega)).trans hr;have hn1:=(hb1.block _ (by omega)).trans hn;have he1:=(hb1.block _ (by omega)).trans he;have hR1:=(hb1.block _ (by omega)).trans hR.blk;have hbB:Only (fun j=>B<=j/\j < B + 4) w w1:=(Only.refl _ _).below hb1 (Nat.le_refl _);clear hr hn he hR hb1 hr0;have n0:=cell_of_one hn1;have n1:=free_of_one hn1;have e0:=cell_of_one he1;have e1:=free_of_one he1;have r0:=cell_of_one hr1;have HR:=Lib.hid hr1;have HN:=Lib.hid hn1;have HE:=Lib.hid he1;have HD:=Lib.hid hR1;have HB:=Lib.hid hbB;clear hr1 hn1 he1 hR1 hbB;go_wp2;simp only [Exit.thenS];obtain ⟨w2,hw2⟩:=nm_ ((w1.setCell ⟨B,0,none⟩ (.int .i64 (k:Int))).setCell ⟨B + 1,0,none⟩ (.int .i64 (y:Int)));have n2:w2.heap[B]?=some (.cells #[.int .i64 (k:Int)] 3 (0,0)):=by rw [hw2];exact (Below.heap_setCell _ ⟨B + 1,0,none⟩ _ _ (by simp)).trans (one_setCell HN.o)
 have e2:w2.heap[B + 1]?=some (.cells #[.int .i64 (y:Int)] 28 (0,0)):=by rw [hw2];exact one_setCell ((Below.heap_setCell _ ⟨B,0,none⟩ _ _ (by simp)).trans HE.o)
 have r2:=(Below.heap_setCell (w1.setCell ⟨B,0,none⟩ (.int .i64 (k:Int))) ⟨B + 1,0,none⟩ (.int .i64 (y:Int)) (B + 3) (by simp)).trans ((Below.heap_setCell w1 ⟨B,0,none⟩ (.int .i64 (k:Int)) (B + 3) (by simp)).trans HR.o);have d2:=(Below.heap_setCell (w1.setCell ⟨B,0,none⟩ (.int .i64 (k:Int))) ⟨B + 1,0,none⟩ (.int .i64 (y:Int)) (B + 2) (by simp)).trans ((Below.heap_setCell w1 ⟨B,0,none⟩ (.int .i64 (k:Int)) (B + 2) (by simp)).trans HD.o);have b2:Only (fun j=>B<=j/\j < B + 4) w w2:=by rw [hw2];exact (HB.setCell (p:=⟨B,0,none⟩) (by dsimp only;omega) _).setCell (p:=⟨B + 1,0,none⟩) (by dsimp only;omega) _
 rw [<- hw2] at r2 d2 ⊢;clear hw2 n0 n1 e0 e1 r0 HR HN HE HD HB;have r0:=cell_of_one r2;have c0:w2.cell? ⟨B + 2,0,none⟩=some v:=by rw [cell_of_row _ _ _ _ _ _ d2];rfl
 have c1:w2.cell? ⟨B + 2,1,none⟩=some (.int .i64 k):=by rw [cell_of_row _ _ _ _ _ _ d2];rfl
 have c2:w2.cell? ⟨B + 2,2,none⟩=some (.bool true):=by rw [cell_of_row _ _ _ _ _ _ d2];rfl
 have c3:w2.cell? ⟨B + 2,3,none⟩=some (.int .i64 y):=by rw [cell_of_row _ _ _ _ _ _ d2];rfl
 have c4:w2.cell? ⟨B + 2,4,none⟩=some (.int .i64 k):=by rw [cell_of_row _ _ _ _ _ _ d2];rfl
 have f0:w2.frozen? ⟨B + 2,0,none⟩=false:=frozen_of_row _ _ _ _ _ d2;have f1:w2.frozen? ⟨B + 2,1,none⟩=false:=frozen_of_row _ _ _ _ _ d2;have f2:w2.frozen? ⟨B + 2,2,none⟩=false:=frozen_of_row _ _ _ _ _ d2;have f3:w2.frozen? ⟨B + 2,3,none⟩=false:=frozen_of_row _ _ _ _ _ d2;have f4:w2.frozen? ⟨B + 2,4,none⟩=false:=frozen_of_row _ _ _ _ _ d2;have HR:=Lib.hid r2;have HN:=Lib.hid n2;have HE:=Lib.hid e2;have HD:=Lib.hid d2;have HB:=Lib.hid b2;clear r2 n2 e2 d2 b2;apply wpS_seq;apply wpS_of_wp;go_wp2;simp only [Exit.thenS];obtain ⟨w3,hw3⟩:=nm_ (((((w2.setCell ⟨B + 2,0,none⟩ (.slice none 0 0)).setCell ⟨B + 2,1,none⟩ (.int .i64 0)).setCell ⟨B + 2,2,none⟩ (.bool false)).setCell ⟨B + 2,3,none⟩ (.int .i64 0)).setCell ⟨B + 2,4,none⟩ (.int .i64 0));rw [<- hw3];have old:∀ j,j≠B + 2->w3.heap[j]?=w2.heap[j]?:=fun j hj=>by
  rw [hw3,Below.heap_setCell _ _ _ _ hj,Below.heap_setCell _ _ _ _ hj,Below.heap_setCell _ _ _ _ hj,Below.heap_setCell _ _ _ _ hj,Below.heap_setCell _ _ _ _ hj]
 have d3:w3.heap[B + 2]?=some (.cells #[.slice none 0 0,.int .i64 0,.bool false,.int .i64 0,.int .i64 0] 291 (0,0)):=by
  rw [hw3];exact block_setCell (block_setCell (block_setCell (block_setCell (block_setCell HD.o _) _) _) _) _
 have hbel:Only (fun j=>B<=j/\j < B + 4) w w3:=by
  rw [hw3];exact ((((HB.setCell (p:=⟨B + 2,0,none⟩) (by dsimp only;omega) _).setCell (p:=⟨B + 2,1,none⟩) (by dsimp only;omega) _).setCell (p:=⟨B + 2,2,none⟩) (by dsimp only;omega) _).setCell (p:=⟨B + 2,3,none⟩) (by dsimp only;omega) _).setCell (p:=⟨B + 2,4,none⟩) (by dsimp only;omega) _
 have r3:=(old (B + 3) (by omega)).trans HR.o;have n3:=(old B (by omega)).trans HN.o;have e3:=(old (B + 1) (by omega)).trans HE.o;have hT:Told B k y w w3:=⟨n3,e3,⟨_,_,_,_,d3⟩,hbel⟩;clear hw3 old d3 hbel n3 e3 HR HN HE HD HB r0 c0 c1 c2 c3 c4 f0 f1 f2 f3 f4;have r0:=cell_of_one r3;have HR:=Lib.hid r3;have HT:=Lib.hid hT;clear r3 hT;apply wpS_seq;apply wpS_region;simp [wpOpsS,go_sem,recoverD,hu,Exit.thenS];apply wpS_of_wp;simp only [zaS];have hlt3:B + 3 < w3.heap.size:=(Array.getElem?_eq_some_iff.1 HR.o).1;have r4:∀ o,(w3.alloc o).cell? ⟨B + 3,0,none⟩=some (.pointer (some ⟨B + 2,0,none⟩)):=fun o=>(World.cell?_of_block (w:=w3) (w':=w3.alloc o) (a:=⟨B + 3,0,none⟩) (Below.heap_alloc _ _ _ hlt3)).trans r0;have HT4:∀ o,Told B k y w (w3.alloc o):=fun o=>HT.later ((Below.refl _ w3).alloc (Nat.le_refl _) o) (by omega);clear r0;go_wp2;exact ⟨rfl,_,rfl,_,results_none rfl _ _ _,rfl,rfl,HT4 _⟩
theorem zk3 {f : FuncId} {fn : Func} {c : Code} (hf : prog.funcs[f]? = some fn) (hname : (fn.name == "runtime.NumGoroutine") = false) (hb : fn.body = some c) (args : Array Value) (u : World) : (callFunc f args).run prog u = .ok (.enter f args) u := by
 have h1 : fn.name ≠ "runtime.NumGoroutine" := by simpa using hname
 simp [callFunc,hf,h1,hb,mark]
def Went (g:Nat) (v:Value) (l:Bs) (k x:Nat) (e:Ending) (w:World):Prop :=
 (x=0/\e=.returned (.tuple #[])/\Rdr w g v l k)∨(x≠0/\e=.panicked [{ v:=zaS g x,recovered:=false }]/\zi6 w g v l k x)
def told (l:Bs) (k x:Nat):Nat:=if x=0 then (if k < l.length then 7 else 0) else x
theorem zjD (n:Nat) (hn:∀ (args:Array Value) (u:World),(callFunc n args).run prog u=.ok (.enter n args) u) (cap:Array Value) (v:Value) (l:Bs) (w:World) (h:Rd w v l) (Post:Nat->Nat->Nat->World->Prop)
  (hP:∀ g k x a b,Post g k x a->w.heap.size + 4<=a.heap.size->Only (fun j=>w.heap.size<=j/\j < w.heap.size + 4) a b->Post g k x b)
  (hf:∀ g w1,w.heap.size<=g->w.heap.size + 4<=w1.heap.size->g < w.heap.size + 4->Below w.heap.size w w1->Rdr w1 g v l 0 ->
   Calls prog n (#[.pointer (some ⟨g,0,none⟩)] ++ cap) w1 fun e w2=>∃ k x,Kept w.heap.size g w1 w2/\Post g k x w2/\Went g v l k x e w2) :
  Calls prog 160 #[v,.func (.func n) #[] cap] w fun e w'=>∃ g k x,k<=l.length/\w.heap.size<=g/\Post g k x w'/\Shut w' g /\
   e=.returned (.tuple #[.int .i64 (k:Int),.int .i64 (told l k x:Int)]):=by
 have hmf:∀ (fn:Fn) (first cap:Array Value) (w:World),(Instr.makeFunc fn first cap).run prog w=.ok (.func fn first cap) w:=fun _ _ _ _=>rfl;have hnf:∀ u,(binOp .eql 249 (.func (.func n) #[] cap) .nilFunc).run prog u=.ok (.bool false) u:=fun u=>rfl;have HP:=h_ hP;have HF:=h_ hf;clear hP hf;obtain ⟨ao,c,hv,_⟩:=id h.shape;subst hv;go_enter_defers func160,ntmps160;go_wp2_with fail;have hblk:(((w.alloc (.cells #[.int .i64 0] 3)).alloc (.cells #[.int .i64 0] 28)).alloc (.cells #[.slice ao l.length c,.int .i64 0,.bool true,.int .i64 0,.int .i64 0] 291)).heap.size=w.heap.size + 3:=by simp
 obtain ⟨w1,hw1⟩:=nm_ ((((w.alloc (.cells #[.int .i64 0] 3)).alloc (.cells #[.int .i64 0] 28)).alloc (.cells #[.slice ao l.length c,.int .i64 0,.bool true,.int .i64 0,.int .i64 0] 291)).alloc (.cells #[.pointer (some ⟨w.heap.size + 1 + 1,0,none⟩)] 247));rw [<- hw1];have hs1:w1.heap.size=w.heap.size + 4:=by rw [hw1];simp
 have hb1:Below w.heap.size w w1:=by
  rw [hw1];exact ((((Below.refl _ w).alloc l_ _).alloc (by simp) _).alloc (by simp [Nat.add_assoc]) _).alloc (by simp [Nat.add_assoc]) _
 have hB0:w1.heap[w.heap.size]?=some (.cells #[.int .i64 0] 3 (0,0)):=by
  rw [hw1,Below.heap_alloc _ _ _ (by simp [Nat.add_assoc]),Below.heap_alloc _ _ _ (by simp [Nat.add_assoc]),Below.heap_alloc _ _ _ (by simp)];exact heap_alloc_new _ _
 have hB1:w1.heap[w.heap.size + 1]?=some (.cells #[.int .i64 0] 28 (0,0)):=by
  rw [hw1,Below.heap_alloc _ _ _ (by simp [Nat.add_assoc]),Below.heap_alloc _ _ _ (by simp)];have:=heap_alloc_new (w.alloc (.cells #[.int .i64 0] 3)) (.cells #[.int .i64 0] 28 (0,0));simpa using this
 have hB2:w1.heap[w.heap.size + 2]?=some (.cells #[.slice ao l.length c,.int .i64 0,.bool true,.int .i64 0,.int .i64 0] 291 (0,0)):=by
  rw [hw1,Below.heap_alloc _ _ _ (by simp)];have:=heap_alloc_new ((w.alloc (.cells #[.int .i64 0] 3)).alloc (.cells #[.int .i64 0] 28 (0,0))) (.cells #[.slice ao l.length c,.int .i64 0,.bool true,.int .i64 0,.int .i64 0] 291 (0,0));simpa using this
 have hB3:w1.heap[w.heap.size + 3]?=some (.cells #[.pointer (some ⟨w.heap.size + 2,0,none⟩)] 247 (0,0)):=by
  rw [hw1,<- hblk];exact heap_alloc_new _ _
 have hR:Rdr w1 (w.heap.size + 2) (.slice ao l.length c) l 0:=⟨hB2,Nat.zero_le _,h.later hb1 l_,fun i hi=>by have:=h.block hi;omega⟩;clear hw1 hblk;rw [show w.heap.size + 1 + 1 + 1=w.heap.size + 3 from rfl,show w.heap.size + 1 + 1=w.heap.size + 2 from rfl];refine (HF.o (w.heap.size + 2) w1 (by omega) (by omega) (by omega) hb1 hR).mono ?_;rintro e w2 ⟨k,x,hk,hp,hwent⟩;have hn2:=(hk.block w.heap.size (by omega) (by omega) (by omega)).trans hB0;have he2:=(hk.block (w.heap.size + 1) (by omega) (by omega) (by omega)).trans hB1;have hr2:=(hk.block (w.heap.size + 3) (by omega) (by omega) (by omega)).trans hB3;have hs2:=hk.size;clear hB0 hB1 hB2 hB3 hk hR hb1;rcases hwent with ⟨rfl,rfl,hR⟩ | ⟨hx,rfl,hE⟩
 ·have c0:=cell_of_one hr2;have hle:=hR.le;dsimp only;go_wp2;refine leaves_cons (f:=210) (args:=#[.pointer (some ⟨w.heap.size + 3,0,none⟩),.pointer (some ⟨w.heap.size,0,none⟩),.pointer (some ⟨w.heap.size + 1,0,none⟩)]) (by simp) (by simp [go_sem]) ?_;obtain ⟨y,hy⟩:∃ y:Nat,(if k < l.length then 7 else 0)=y:=⟨_,rfl⟩;refine (zzF w.heap.size _ l k y hy _ hr2 hn2 he2 hR).mono ?_;rintro e u w4 ⟨rfl,rfl,h1,h2,h3,h4⟩;have d1:=cell_of_one h1;have d2:=cell_of_one h2;have hp5:=HP.o _ _ _ _ _ hp (by omega) h4;simp [Leaves,settle,results,results160,go_sem,d1,d2];exact ⟨_,k,hle,by omega,0,hp5,h3,rfl,by simp [told,hy]⟩
 go_wp2;refine leaves_cons (f:=210) (args:=#[.pointer (some ⟨w.heap.size + 3,0,none⟩),.pointer (some ⟨w.heap.size,0,none⟩),.pointer (some ⟨w.heap.size + 1,0,none⟩)]) (by simp) (by simp [go_sem]) ?_;refine (zw1 w.heap.size _ l k x hx w2 hr2 hn2 he2 hE).mono ?_;rintro e u w3 ⟨rfl,rfl,h1,h2,h3,h4⟩;have d1:=cell_of_one h1;have d2:=cell_of_one h2;have hp5:=HP.o _ _ _ _ _ hp (by omega) h4;simp [Leaves,settle,results,results160,go_sem,d1,d2];exact ⟨_,k,hE.le,by omega,x,hp5,h3,rfl,by simp [told,hx]⟩
/- -/
section
variable {w w':World} {m:Nat} {v:Value} {l:Bs} {k x:Nat}
end
/- -/
