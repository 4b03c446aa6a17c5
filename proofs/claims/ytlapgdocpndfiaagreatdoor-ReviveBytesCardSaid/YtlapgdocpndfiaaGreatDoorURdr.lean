/- -/
import Derived.Defers
import Derived.Recover
import Derived.RegionTactic
import Derived.BigRegion
import Derived.Lib.Builder
import Derived.Test.YtlapgdocpndfiaaGreatDoorUSchW
set_option maxHeartbeats 4000000
set_option linter.unusedVariables false
set_option linter.unusedSimpArgs false
set_option maxRecDepth 1000000
namespace Go.Proofs.YtlapgdocpndfiaaGreatDoor
open _root_.Go.Proofs.Tryz
open Go.RowKit
def rdU (l:Bs) (k most:Nat):Nat × Nat × Nat :=
 if (getU (l.drop k)).2.2≠0 then (0,k,(getU (l.drop k)).2.2)
 else if most < (getU (l.drop k)).1 then (0,k,3)
 else ((getU (l.drop k)).1,k + (getU (l.drop k)).2.1,0)
def rdB (l:Bs) (k:Nat) (most:Int):Bs × Nat × Nat :=
 if (getB (l.drop k) most).2.2≠0 then ([],k,(getB (l.drop k) most).2.2)
 else ((getB (l.drop k) most).1,k + (getB (l.drop k) most).2.1,0)
theorem zjQ (l:Bs) (most:Int):(getB l most).2.1<=l.length/\(getB l most).2.2<=13/\((getB l most).2.2≠0->(getB l most).1=[]/\(getB l most).2.1=0):=by
 have hg:=zaU l;have hc:=zdA l;unfold getB;split
 ·rename_i h;exact ⟨by simp,by simp;omega,fun _=>⟨rfl,rfl⟩⟩
 split
 ·exact ⟨by simp,by simp,fun _=>⟨rfl,rfl⟩⟩
 split
 ·exact ⟨by simp,by simp,fun _=>⟨rfl,rfl⟩⟩
 rename_i h0 h1 h2;have h0':(getU l).2.2=0:=Decidable.of_not_not h0;obtain ⟨_,h3,h4,h5⟩:=hg h0';exact ⟨by simp;omega,by simp,fun h=>absurd rfl h⟩
theorem zxG {l:Bs} {k most:Nat} (hk:k<=l.length) (h:(rdU l k most).2.2=0) :
  (getU (l.drop k)).2.2=0/\¬ most < (getU (l.drop k)).1/\rdU l k most=((getU (l.drop k)).1,k + (getU (l.drop k)).2.1,0)/\(rdU l k most).2.1<=l.length/\(rdU l k most).1 < 2 ^ 64:=by
 unfold rdU at h ⊢;by_cases h1:(getU (l.drop k)).2.2=0
 ·rw [if_neg (fun h=>h h1)] at h ⊢;by_cases h2:most < (getU (l.drop k)).1
  ·rw [if_pos h2] at h;exact absurd h (by simp)
  rw [if_neg h2];obtain ⟨h3,h4,h5,h6⟩:=zaU _ h1;simp only [List.length_drop] at h5;exact ⟨h1,h2,rfl,by dsimp only;omega,h3⟩
 rw [if_pos h1] at h;exact absurd h h1
theorem zCM {l:Bs} {k most:Nat} (h:(rdU l k most).2.2≠0):(rdU l k most).1=0/\(rdU l k most).2.1=k/\(rdU l k most).2.2<=7:=by
 have hc:=zdA (l.drop k);unfold rdU at h ⊢;split
 ·exact ⟨rfl,rfl,hc⟩
 split
 ·exact ⟨rfl,rfl,by simp⟩
 rename_i h1 h2;rw [if_neg h1,if_neg h2] at h;exact absurd rfl h
structure Rdr (w:World) (g:Nat) (v:Value) (l:Bs) (k:Nat):Prop where
 blk:w.heap[g]?=some (.cells #[v,.int .i64 (k:Int),.bool true,.int .i64 0,.int .i64 0] 291 (0,0))
 le:k<=l.length
 rd:Rd w v l
 off:∀ i,i < l.length->(adr v i).block≠g
structure zi9 (w:World) (g:Nat) (v:Value) (l:Bs) (k x:Nat):Prop where
 blk:w.heap[g]?=some (.cells #[v,.int .i64 (k:Int),.bool true,.int .i64 (x:Int),.int .i64 (k:Int)] 291 (0,0))
 le:k<=l.length
def Shut (w:World) (g:Nat):Prop:=∃ a b c d,w.heap[g]?=some (.cells #[a,b,.bool false,c,d] 291 (0,0))
def zaR (g:Nat) (x:Nat):Value:=.iface 294 (.agg #[.pointer (some ⟨g,0,none⟩)])
theorem Rdr.lt {w:World} {g:Nat} {v:Value} {l:Bs} {k:Nat} (h:Rdr w g v l k):g < w.heap.size:=(Array.getElem?_eq_some_iff.1 h.blk).1
theorem Rdr.cell0 {w:World} {g:Nat} {v:Value} {l:Bs} {k:Nat} (h:Rdr w g v l k):w.cell? ⟨g,0,none⟩=some v:=by rw [cell_of_row _ _ _ _ _ _ h.blk];rfl
theorem Rdr.cell1 {w:World} {g:Nat} {v:Value} {l:Bs} {k:Nat} (h:Rdr w g v l k):w.cell? ⟨g,1,none⟩=some (.int .i64 k):=by rw [cell_of_row _ _ _ _ _ _ h.blk];rfl
theorem Rdr.cell2 {w:World} {g:Nat} {v:Value} {l:Bs} {k:Nat} (h:Rdr w g v l k):w.cell? ⟨g,2,none⟩=some (.bool true):=by rw [cell_of_row _ _ _ _ _ _ h.blk];rfl
theorem Rdr.cell3 {w:World} {g:Nat} {v:Value} {l:Bs} {k:Nat} (h:Rdr w g v l k):w.cell? ⟨g,3,none⟩=some (.int .i64 0):=by rw [cell_of_row _ _ _ _ _ _ h.blk];rfl
theorem Rdr.cell4 {w:World} {g:Nat} {v:Value} {l:Bs} {k:Nat} (h:Rdr w g v l k):w.cell? ⟨g,4,none⟩=some (.int .i64 0):=by rw [cell_of_row _ _ _ _ _ _ h.blk];rfl
theorem Rdr.free {w:World} {g:Nat} {v:Value} {l:Bs} {k:Nat} (h:Rdr w g v l k) (i:Nat):w.frozen? ⟨g,i,none⟩=false:=frozen_of_row _ _ _ _ _ h.blk
theorem Rd.same {w w':World} {v:Value} {l:Bs} (h:Rd w v l) (hs:∀ i,i < l.length->w'.heap[(adr v i).block]?=w.heap[(adr v i).block]?):Rd w' v l :=
 ⟨h.shape,fun i hi=>(World.cell?_of_block (hs i hi)).trans (h.cells i hi),h.small⟩
theorem Rdr.same {w w':World} {g:Nat} {v:Value} {l:Bs} {k:Nat} (h:Rdr w g v l k) (hg:w'.heap[g]?=w.heap[g]?) (hs:∀ i,i < l.length->w'.heap[(adr v i).block]?=w.heap[(adr v i).block]?):Rdr w' g v l k :=
 ⟨hg.trans h.blk,h.le,h.rd.same hs,h.off⟩
theorem Rdr.set {w:World} {g:Nat} {v:Value} {l:Bs} {k:Nat} (h:Rdr w g v l k) {n:Nat} (hn:n<=l.length):Rdr (w.setCell ⟨g,1,none⟩ (.int .i64 n)) g v l n :=
 ⟨block_setCell h.blk _,hn,h.rd.same fun i hi=>Below.heap_setCell _ _ _ _ (h.off i hi),h.off⟩
theorem Rdr.later {w w':World} {g:Nat} {v:Value} {l:Bs} {k B:Nat} (h:Rdr w g v l k) (hb:Below B w w') (hB:w.heap.size<=B):Rdr w' g v l k :=
 h.same (hb.block _ (Nat.lt_of_lt_of_le h.lt hB)) fun i hi=>hb.block _ (Nat.lt_of_lt_of_le (h.rd.block hi) hB)
theorem Rdr.setVar {w:World} {g:Nat} {v:Value} {l:Bs} {k:Nat} (h:Rdr w g v l k) {p:Addr} (hp:p.block≠g) (hv:∀ i,i < l.length->(adr v i).block≠p.block) (u:Value):Rdr (w.setCell p u) g v l k :=
 h.same (Below.heap_setCell _ _ _ _ (fun e=>hp e.symm)) fun i hi=>Below.heap_setCell _ _ _ _ (hv i hi)
theorem Rdr.alloc {w:World} {g:Nat} {v:Value} {l:Bs} {k:Nat} (h:Rdr w g v l k) (o:Obj):Rdr (w.alloc o) g v l k :=
 h.later ((Below.refl _ _).alloc l_ o) l_
def Reads (w:World) (g:Nat) (v:Value) (l:Bs) (val:Value) (k' x:Nat) (e:Ending) (w':World):Prop :=
 w.grownBy w' (some g)/\((x=0/\e=.returned val/\Rdr w' g v l k')∨(x≠0/\e=.panicked [{ v:=zaR g x,recovered:=false }]/\zi9 w' g v l k' x))
theorem Reads.ok {w w':World} {g:Nat} {v val:Value} {l:Bs} {k' x:Nat} {e:Ending} (h:Reads w g v l val k' x e w') (hx:x=0):e=.returned val/\w.grownBy w' (some g)/\Rdr w' g v l k':=by
 rcases h with ⟨h1,⟨_,h2,h3⟩ | ⟨h2,_⟩⟩
 ·exact ⟨h2,h1,h3⟩
 exact absurd hx h2
theorem Reads.no {w w':World} {g:Nat} {v val:Value} {l:Bs} {k' x:Nat} {e:Ending} (h:Reads w g v l val k' x e w') (hx:x≠0):e=.panicked [{ v:=zaR g x,recovered:=false }]/\w.grownBy w' (some g)/\zi9 w' g v l k' x:=by
 rcases h with ⟨h1,⟨h2,_⟩ | ⟨_,h2,h3⟩⟩
 ·exact absurd h2 hx
 exact ⟨h2,h1,h3⟩
theorem zaZ (g:Nat) (v:Value) (l:Bs) (k:Nat) (w:World) (hR:Rdr w g v l k) :
  Calls prog 215 #[.pointer (some ⟨g,0,none⟩)] w fun e w'=>e=.returned (.bool false)/\w=w':=by
 have c2:=hR.cell2;clear hR;go_enter func215,ntmps215;go_wp2;go_ret;exact ⟨rfl,rfl⟩
theorem zjB (g:Nat) (v:Value) (l:Bs) (k x:Nat) (w:World) (hR:Rdr w g v l k) :
  Calls prog 246 #[.pointer (some ⟨g,0,none⟩),.int .i64 (x:Int)] w fun e w'=>e=.panicked [{ v:=zaR g x,recovered:=false }]/\w.grownBy w' (some g)/\zi9 w' g v l k x:=by
 have c1:=hR.cell1;have c3:=hR.cell3;have c4:=hR.cell4;have f3:=hR.free 3;have f4:=hR.free 4;have HR:=h_ hR;have hG:w.grownBy ((w.setCell ⟨g,3,none⟩ (.int .i64 (x:Int))).setCell ⟨g,4,none⟩ (.int .i64 (k:Int))) (some g):=za2 (za2 (World.grownBy.refl _ _) _) _;have HG:=h_ hG;clear hG;clear hR;go_enter func246,ntmps246;go_wp2;exact ⟨rfl,rfl,HG.o,⟨block_setCell (block_setCell HR.blk _) _,HR.le⟩⟩
theorem below_grown {w w':World} (h:Below w.heap.size w w') (r:Option Nat):w.grownBy w' r:=⟨h.os,h.tape,h.output,h.size,fun j hj _=>h.block j hj⟩
theorem _root_.Go.World.grownBy.trans_drew {w w':World} {r:Option Nat} (h:w.grownBy w' r):w.grownBy w'.drew r:=⟨h.os,h.tape,h.output,h.size,h.block⟩
theorem zd9 (w:World) (r:Option Nat):w.grownBy w.drew r:=⟨rfl,rfl,rfl,l_,fun _ _ _=>rfl⟩
theorem Rdr.drew {w:World} {g:Nat} {v:Value} {l:Bs} {k:Nat} (h:Rdr w g v l k):Rdr w.drew g v l k:=⟨h.blk,h.le,h.rd.drew,h.off⟩
theorem zdM (g:Nat) (v:Value) (l:Bs) (k:Nat) (w:World) (hR:Rdr w g v l k) :
  Calls prog 245 #[.pointer (some ⟨g,0,none⟩)] w fun e w'=>e=.returned (.int .i64 ((l.length - k:Nat):Int))/\Below w.heap.size w w':=by
 have c0:=hR.cell0;have c1:=hR.cell1;have hlen:=hR.rd.len;have hsm:=hR.rd.small;have hle:=hR.le;have hsub:(l.length:Int) - k=((l.length - k:Nat):Int):=by omega
 go_enter func245,ntmps245;go_wp2_with fail;refine (zaZ _ _ _ _ _ hR).mono ?_;rintro e w1 ⟨rfl,rfl⟩;clear hR;go_wp2;go_region;go_wp2;go_ret;exact ⟨rfl,(Below.refl _ _).drew⟩
theorem zaD (p:Value) (w:World) (x:Int) :
  Calls prog 212 #[p,.bool true,.int .i64 x] w fun e w'=>e=.returned (.tuple #[])/\w=w':=by
 go_enter func212,ntmps212;go_wp2;go_end0;exact ⟨rfl,rfl⟩
theorem zaB (g:Nat) (v:Value) (l:Bs) (k:Nat) (w:World) (hR:Rdr w g v l k) (x:Nat) (hx:x≠0) :
  Calls prog 212 #[.pointer (some ⟨g,0,none⟩),.bool false,.int .i64 (x:Int)] w fun e w'=>e=.panicked [{ v:=zaR g x,recovered:=false }]/\w.grownBy w' (some g)/\zi9 w' g v l k x:=by
 have hne:((x:Int) != 0)=true:=by simp;omega
 go_enter func212,ntmps212;go_wp2_with fail;refine (zaZ _ _ _ _ _ hR).mono ?_;rintro e w1 ⟨rfl,rfl⟩;go_wp2_with fail;refine (zjB g v l k x _ hR).mono ?_;rintro e w2 ⟨rfl,hg,hE⟩;clear hR;go_wp2;exact ⟨rfl,rfl,hg,hE⟩
theorem zjD (g:Nat) (v:Value) (l:Bs) (k:Nat) (w:World) (hR:Rdr w g v l k) :
  Calls prog 214 #[.pointer (some ⟨g,0,none⟩)] w (Reads w g v l (.int .u8 (if k < l.length then at8 l k else 0)) (if k < l.length then k + 1 else k) (if k < l.length then 0 else 5)):=by
 have hsm:=hR.rd.small;have hle:=hR.le;by_cases hk:k < l.length
 ·simp only [if_pos hk];have hz:((((l.length - k:Nat):Int) == 0)=false):=by simp;omega
  go_enter func214,ntmps214;go_wp2_with fail;refine (zaZ _ _ _ _ _ hR).mono ?_;rintro e w1 ⟨rfl,rfl⟩;go_wp2_with fail;refine (zdM _ _ _ _ _ hR).mono ?_;rintro e w1 ⟨rfl,hb1⟩;have hR1:=hR.later hb1 l_;have c1:=hR1.cell1;have f1:=hR1.free 1;have hS:=hR1.set (n:=k + 1) (by omega);have d0:=hS.cell0;have d1:=hS.cell1;have hidx:=hS.rd.idx k hk;have hcel:=hS.rd.cells k hk;have hg:w.grownBy (w1.setCell ⟨g,1,none⟩ (.int .i64 ((k + 1:Nat):Int))) (some g):=za2 (below_grown hb1 _) _;have HS:=h_ hS;have HG:=h_ hg;have hk1:(k:Int) + 1 - 1=(k:Int):=by omega
  clear hR hR1 hS hg hb1;rw [show ((k + 1:Nat):Int)=(k:Int) + 1 from by omega] at *;go_wp2;go_region;go_wp2;go_ret;exact ⟨HG.trans_drew,.inl ⟨rfl,rfl,HS.drew⟩⟩
 simp only [if_neg hk];obtain rfl:k=l.length:=by omega
 have hz:((((l.length - l.length:Nat):Int) == 0)=true):=by simp
 go_enter func214,ntmps214;go_wp2_with fail;refine (zaZ _ _ _ _ _ hR).mono ?_;rintro e w1 ⟨rfl,rfl⟩;go_wp2_with fail;refine (zdM _ _ _ _ _ hR).mono ?_;rintro e w1 ⟨rfl,hb1⟩;have hR1:=hR.later hb1 l_;clear hR;go_wp2_with fail;refine (zjB g v l _ 5 _ hR1).mono ?_;rintro e w2 ⟨rfl,hg2,hE⟩;clear hR1;go_wp2;exact ⟨rfl,(below_grown hb1 _).trans hg2,.inr ⟨by decide,rfl,hE⟩⟩
theorem zbW (g:Nat) (v:Value) (l:Bs) (k:Nat) (w:World) (hR:Rdr w g v l k) (most:Nat) (hm:most < 18446744073709551616) :
  Calls prog 165 #[.pointer (some ⟨g,0,none⟩),.int .u64 (most:Int)] w (Reads w g v l (.int .u64 ((rdU l k most).1:Int)) (rdU l k most).2.1 (rdU l k most).2.2):=by
 have hsm:=hR.rd.small;have hle:=hR.le;have hR0:=hR.drew;have c0:∀ x:Ord.GW w.drew,x.val.cell? ⟨g,0,none⟩=some v:=fun x=>(hR0.later x.grew l_).cell0;have c1:∀ x:Ord.GW w.drew,x.val.cell? ⟨g,1,none⟩=some (.int .i64 k):=fun x=>(hR0.later x.grew l_).cell1;obtain ⟨vb,hsl,hrd⟩:=hR.rd.from k hle;have hg:=zaU (l.drop k);rcases hr:getU (l.drop k) with ⟨x,n,er⟩
 rw [hr] at hg;dsimp only at hg;have HU:=h_ hr;by_cases he:er=0
 ·subst he;obtain ⟨hx,hn1,hn2,hn3⟩:=hg rfl;simp only [List.length_drop] at hn2;by_cases hx2:most < x
  ·have hd:rdU l k most=(0,k,3):=(by unfold rdU;rw [hr];dsimp only;rw [if_neg (by simp),if_pos hx2]);rw [hd];dsimp only;have hle2:decide (x<=most)=false:=(by simp;omega);clear hr hd;go_enter func165,ntmps165;go_wp2_with fail;refine (zaZ _ _ _ _ _ hR).mono ?_;rintro e w1 ⟨rfl,rfl⟩;go_wp2_with fail;refine OrdR.wp_region_ord Ord.way [(0,false),(1,false),(2,false),(3,false),(4,false),(5,false),(6,false),(7,false),(8,false),(9,true),(10,false),(11,false),(12,false),(13,false),(14,false),(15,false),(16,false)] (by kernel_rfl) rfl (by kernel_rfl) (by kernel_rfl) (fun _ _ _ d _ h=>by cases d <;> exact h) ?_;iterate 9 (refine OrdR.ord_still rfl rfl (by kernel_rfl) (fun K hK=>?_);go_big_quiet_op;refine hK _ ?_;clear hK K)
   refine OrdR.ord_loud rfl (by kernel_rfl) (fun K hK=>?_);go_big_op;refine (zaV _ _ _ (hrd _ (hR.rd.drew))).mono ?_;rintro e w1 ⟨rfl,rfl⟩;rw [HU.o];refine hK _ _ (Ord.Grew.refl _) ?_;clear hK K;iterate 7 (refine OrdR.ord_still rfl rfl (by kernel_rfl) (fun K hK=>?_);go_big_quiet_op;refine hK _ ?_;clear hK K)
   refine OrdR.ord_nil ?_;clear c0 c1;go_wp2_with fail;refine (zaD _ _ _).mono ?_;rintro e w2 ⟨rfl,rfl⟩;go_wp2_with fail;refine (zaB g v l k _ hR0 3 (by decide)).mono ?_;rintro e w2 ⟨rfl,hg2,hE⟩;clear hR hR0;go_wp2;exact ⟨rfl,(zd9 _ _).trans hg2,.inr ⟨by decide,rfl,hE⟩⟩
  have hd:rdU l k most=(x,k + n,0):=by unfold rdU;rw [hr];dsimp only;rw [if_neg (by simp),if_neg hx2]
  rw [hd];dsimp only;have hle2:decide (x<=most)=true:=by simp;omega
  clear hr hd;have hS:=hR0.set (n:=k + n) (by omega);have hgs:w.grownBy (w.drew.setCell ⟨g,1,none⟩ (.int .i64 ((k + n:Nat):Int))) (some g):=za2 (zd9 _ _) _;have d1:=hR0.cell1;have f1:=hR0.free 1;have HS:=h_ hS;have HG:=h_ hgs;clear hS hgs;rw [show ((k + n:Nat):Int)=(k:Int) + (n:Int) from by omega] at *;go_enter func165,ntmps165;go_wp2_with fail;refine (zaZ _ _ _ _ _ hR).mono ?_;rintro e w1 ⟨rfl,rfl⟩;go_wp2_with fail;refine OrdR.wp_region_ord Ord.way [(0,false),(1,false),(2,false),(3,false),(4,false),(5,false),(6,false),(7,false),(8,false),(9,true),(10,false),(11,false),(12,false),(13,false),(14,false),(15,false),(16,false)] (by kernel_rfl) rfl (by kernel_rfl) (by kernel_rfl) (fun _ _ _ d _ h=>by cases d <;> exact h) ?_;iterate 9 (refine OrdR.ord_still rfl rfl (by kernel_rfl) (fun K hK=>?_);go_big_quiet_op;refine hK _ ?_;clear hK K)
  refine OrdR.ord_loud rfl (by kernel_rfl) (fun K hK=>?_);go_big_op;refine (zaV _ _ _ (hrd _ (hR.rd.drew))).mono ?_;rintro e w1 ⟨rfl,rfl⟩;rw [HU.o];refine hK _ _ (Ord.Grew.refl _) ?_;clear hK K;iterate 7 (refine OrdR.ord_still rfl rfl (by kernel_rfl) (fun K hK=>?_);go_big_quiet_op;refine hK _ ?_;clear hK K)
  refine OrdR.ord_nil ?_;clear c0 c1;iterate 2 (go_wp2_with fail;refine (zaD _ _ _).mono ?_;rintro e w2 ⟨rfl,rfl⟩)
  clear hR hR0;go_wp2;go_ret;exact ⟨HG.o,.inl ⟨rfl,rfl,HS.o⟩⟩
 have hd:rdU l k most=(0,k,er):=by unfold rdU;rw [hr];dsimp only;rw [if_pos he]
 rw [hd];dsimp only;have hne':((er:Int) == 0)=false:=by simp;omega
 clear hr hd;go_enter func165,ntmps165;go_wp2_with fail;refine (zaZ _ _ _ _ _ hR).mono ?_;rintro e w1 ⟨rfl,rfl⟩;go_wp2_with fail;refine OrdR.wp_region_ord Ord.way [(0,false),(1,false),(2,false),(3,false),(4,false),(5,false),(6,false),(7,false),(8,false),(9,true),(10,false),(11,false),(12,false),(13,false),(14,false),(15,false),(16,false)] (by kernel_rfl) rfl (by kernel_rfl) (by kernel_rfl) (fun _ _ _ d _ h=>by cases d <;> exact h) ?_;iterate 9 (refine OrdR.ord_still rfl rfl (by kernel_rfl) (fun K hK=>?_);go_big_quiet_op;refine hK _ ?_;clear hK K)
 refine OrdR.ord_loud rfl (by kernel_rfl) (fun K hK=>?_);go_big_op;refine (zaV _ _ _ (hrd _ (hR.rd.drew))).mono ?_;rintro e w1 ⟨rfl,rfl⟩;rw [HU.o];refine hK _ _ (Ord.Grew.refl _) ?_;clear hK K;iterate 7 (refine OrdR.ord_still rfl rfl (by kernel_rfl) (fun K hK=>?_);go_big_quiet_op;refine hK _ ?_;clear hK K)
 refine OrdR.ord_nil ?_;clear c0 c1;go_wp2_with fail;refine (zaB g v l k _ hR0 er he).mono ?_;rintro e w2 ⟨rfl,hg2,hE⟩;clear hR hR0;go_wp2;exact ⟨rfl,(zd9 _ _).trans hg2,.inr ⟨he,rfl,hE⟩⟩
theorem zF6 {l:Bs} {k:Nat}:(rdU l k 18446744073709551615).1 < 2 ^ 64:=by
 unfold rdU;split
 ·simp
 split
 ·simp
 rename_i h _;exact (zaU _ (Decidable.of_not_not h)).1
theorem zlL (g:Nat) (v:Value) (l:Bs) (k:Nat) (w:World) (hR:Rdr w g v l k) :
  Calls prog 218 #[.pointer (some ⟨g,0,none⟩)] w (Reads w g v l (.int .i64 (zag (rdU l k 18446744073709551615).1)) (rdU l k 18446744073709551615).2.1 (rdU l k 18446744073709551615).2.2):=by
 have hx:=zF6 (l:=l) (k:=k);rcases hr:rdU l k 18446744073709551615 with ⟨x,n,er⟩
 rw [hr] at hx;dsimp only at hx ⊢;have HR:=h_ hr;clear hr;go_enter func218,ntmps218;go_wp2_with fail;refine (zbW g v l k _ hR 18446744073709551615 (by decide)).mono ?_;rw [HR.o];dsimp only;rintro e w1 h;by_cases he:er=0
 ·obtain ⟨rfl,hg1,hR1⟩:=h.ok he;go_wp2_with fail;refine (zA9 (x:Int) (by omega) (by omega) _).mono ?_;rintro e w2 ⟨rfl,rfl⟩;go_wp2;go_ret;exact ⟨hg1,.inl ⟨he,rfl,hR1⟩⟩
 obtain ⟨rfl,hg1,hR1⟩:=h.no he;go_wp2;exact ⟨rfl,hg1,.inr ⟨he,rfl,hR1⟩⟩
def zD1 (w:World) (g:Nat) (v:Value) (l:Bs) (r:Bs × Nat × Nat) (e:Ending) (w':World):Prop :=
 ∃ val,Reads w g v l val r.2.1 r.2.2 e w'/\(r.2.2=0->Own w' w.heap.size val r.1)
theorem zhJ (g:Nat) (v:Value) (l:Bs) (k:Nat) (w:World) (hR:Rdr w g v l k) (most:Int) (hm:-9223372036854775808<=most/\most<=9223372036854775807) :
  Calls prog 213 #[.pointer (some ⟨g,0,none⟩),.int .i64 most] w (zD1 w g v l (rdB l k most)):=by
 have hsm:=hR.rd.small;have hle:=hR.le;have hR0:=hR.drew;have c0:∀ x:Ord.GW w.drew,x.val.cell? ⟨g,0,none⟩=some v:=fun x=>(hR0.later x.grew l_).cell0;have c1:∀ x:Ord.GW w.drew,x.val.cell? ⟨g,1,none⟩=some (.int .i64 k):=fun x=>(hR0.later x.grew l_).cell1;obtain ⟨vb,hsl,hrd⟩:=hR.rd.from k hle;have hg:=zjQ (l.drop k) most;rcases hr:getB (l.drop k) most with ⟨x,n,er⟩
 rw [hr] at hg;dsimp only at hg;obtain ⟨hn2,hn3,_⟩:=hg;simp only [List.length_drop] at hn2;have HU:=h_ hr;by_cases he:er=0
 ·subst he;have hd:rdB l k most=(x,k + n,0):=by unfold rdB;rw [hr];dsimp only;rw [if_neg (by simp)]
  rw [hd];clear hr hd;go_enter func213,ntmps213;go_wp2_with fail;refine (zaZ _ _ _ _ _ hR).mono ?_;rintro e w1 ⟨rfl,rfl⟩;go_wp2_with fail;refine OrdR.wp_region_ord Ord.way [(0,false),(1,false),(2,false),(3,false),(4,false),(5,false),(6,false),(7,false),(8,false),(9,false),(10,true),(11,false),(12,false),(13,false),(14,false),(15,false),(16,false),(17,false)] (by kernel_rfl) rfl (by kernel_rfl) (by kernel_rfl) (fun _ _ _ d _ h=>by cases d <;> exact h) ?_;iterate 10 (refine OrdR.ord_still rfl rfl (by kernel_rfl) (fun K hK=>?_);go_big_quiet_op;refine hK _ ?_;clear hK K)
  refine OrdR.ord_loud rfl (by kernel_rfl) (fun K hK=>?_);go_big_op;refine (zbB _ _ most hm.1 hm.2 _ (hrd _ (hR.rd.drew))).mono ?_;rintro e w1 ⟨v1,rfl,ho1,hb1⟩;rw [HU.o] at ho1 ⊢;dsimp only at ho1 ⊢;refine hK _ _ hb1 ?_;clear hK K;iterate 7 (refine OrdR.ord_still rfl rfl (by kernel_rfl) (fun K hK=>?_);go_big_quiet_op;refine hK _ ?_;clear hK K)
  refine OrdR.ord_nil ?_;clear c0 c1;go_wp2_with fail;refine (zaD _ _ _).mono ?_;rintro e w2 ⟨rfl,rfl⟩;have hR1:=hR0.later hb1 l_;have hS:=hR1.set (n:=k + n) (by omega);have hgs:w.grownBy (w1.setCell ⟨g,1,none⟩ (.int .i64 ((k + n:Nat):Int))) (some g):=za2 ((zd9 w _).trans (below_grown hb1 _)) _;have hO:Own (w1.setCell ⟨g,1,none⟩ (.int .i64 ((k + n:Nat):Int))) w.heap.size v1 x:=ownsRow_setCell_below ho1 (a:=⟨g,1,none⟩) hR.lt _;have d1:=hR1.cell1;have f1:=hR1.free 1;have HS:=h_ hS;have HG:=h_ hgs;clear hS hgs hR hR0 hR1 ho1 hb1;rw [show ((k + n:Nat):Int)=(k:Int) + (n:Int) from by omega] at *;go_wp2;go_ret;exact ⟨_,⟨HG.o,.inl ⟨rfl,rfl,HS.o⟩⟩,fun _=>hO⟩
 have hd:rdB l k most=([],k,er):=by unfold rdB;rw [hr];dsimp only;rw [if_pos he]
 rw [hd];have hne:((er:Int) == 0)=false:=by simp;omega
 clear hr hd;go_enter func213,ntmps213;go_wp2_with fail;refine (zaZ _ _ _ _ _ hR).mono ?_;rintro e w1 ⟨rfl,rfl⟩;go_wp2_with fail;refine OrdR.wp_region_ord Ord.way [(0,false),(1,false),(2,false),(3,false),(4,false),(5,false),(6,false),(7,false),(8,false),(9,false),(10,true),(11,false),(12,false),(13,false),(14,false),(15,false),(16,false),(17,false)] (by kernel_rfl) rfl (by kernel_rfl) (by kernel_rfl) (fun _ _ _ d _ h=>by cases d <;> exact h) ?_;iterate 10 (refine OrdR.ord_still rfl rfl (by kernel_rfl) (fun K hK=>?_);go_big_quiet_op;refine hK _ ?_;clear hK K)
 refine OrdR.ord_loud rfl (by kernel_rfl) (fun K hK=>?_);go_big_op;refine (zbB _ _ most hm.1 hm.2 _ (hrd _ (hR.rd.drew))).mono ?_;rintro e w1 ⟨v1,rfl,ho1,hb1⟩;rw [HU.o] at ho1 ⊢;dsimp only at ho1 ⊢;refine hK _ _ hb1 ?_;clear hK K;iterate 7 (refine OrdR.ord_still rfl rfl (by kernel_rfl) (fun K hK=>?_);go_big_quiet_op;refine hK _ ?_;clear hK K)
 refine OrdR.ord_nil ?_;clear c0 c1;go_wp2_with fail;refine (zaB g v l k _ (hR0.later hb1 l_) er he).mono ?_;rintro e w2 ⟨rfl,hg2,hE⟩;clear hR hR0;go_wp2;exact ⟨rfl,.slice none 0 0,⟨((zd9 w _).trans (below_grown hb1 _)).trans hg2,.inr ⟨he,rfl,hE⟩⟩,fun h=>absurd h he⟩
/- -/
theorem zrP:(prog.info? 291).isSome=true:=by kernel_rfl
theorem zB1 (a:Addr) (u:World):(binOp .neq 247 (.pointer (some a)) (.pointer (some a))).run prog u=.ok (.bool false) u:=by
 obtain ⟨j,hj⟩:=Option.isSome_iff_exists.1 zrP;exact Lib.run_neq_ptr_same u a underlying247 hj
theorem zl3 (g:Nat) (v:Value) (l:Bs) (k:Nat) (w:World) (hR:Rdr w g v l k) (y:Nat) (hy:(if k < l.length then 7 else 0)=y) :
  Calls prog 211 #[.pointer (some ⟨g,0,none⟩)] w fun e w'=>e=.returned (.tuple #[.int .i64 (k:Int),.int .i64 (y:Int)])/\Below w.heap.size w w':=by
 have c3:=hR.cell3;have hle:=hR.le;by_cases hk:k < l.length
 ·have hgt:((l.length - k:Nat):Int) > 0:=by omega
  rw [if_pos hk] at hy;subst hy;go_enter func211,ntmps211;go_wp2_with fail;refine (zdM _ _ _ _ _ hR).mono ?_;rintro e w1 ⟨rfl,hb⟩;have c1:=(hR.later hb l_).cell1;clear hR c3;go_wp2;go_ret2;exact ⟨rfl,hb⟩
 have hgt:¬ ((l.length - k:Nat):Int) > 0:=by omega
 rw [if_neg hk] at hy;subst hy;go_enter func211,ntmps211;go_wp2_with fail;refine (zdM _ _ _ _ _ hR).mono ?_;rintro e w1 ⟨rfl,hb⟩;have c1:=(hR.later hb l_).cell1;clear hR c3;go_wp2;go_ret2;exact ⟨rfl,hb⟩
theorem znM (g:Nat) (v:Value) (l:Bs) (k x:Nat) (w:World) (hx:x≠0) (hE:zi9 w g v l k x) :
  Calls prog 211 #[.pointer (some ⟨g,0,none⟩)] w fun e w'=>e=.returned (.tuple #[.int .i64 (k:Int),.int .i64 (x:Int)])/\Below w.heap.size w w':=by
 have c3:w.cell? ⟨g,3,none⟩=some (.int .i64 x):=by rw [cell_of_row _ _ _ _ _ _ hE.blk];rfl
 have c4:w.cell? ⟨g,4,none⟩=some (.int .i64 k):=by rw [cell_of_row _ _ _ _ _ _ hE.blk];rfl
 have hne:((x:Int) != 0)=true:=by simp;omega
 clear hE;go_enter func211,ntmps211;go_wp2;go_region;go_wp2;go_ret2;exact ⟨rfl,(Below.refl _ _).drew⟩
def Told (B k y:Nat) (w w':World):Prop :=
 w'.heap[B]?=some (.cells #[.int .i64 (k:Int)] 3 (0,0))/\w'.heap[B + 1]?=some (.cells #[.int .i64 (y:Int)] 28 (0,0))/\Shut w' (B + 2)/\Only (fun j=>B<=j/\j < B + 4) w w'
theorem Told.later {B k y:Nat} {w w1 w2:World} (h:Told B k y w w1) (hb:Below w1.heap.size w1 w2) (hs:B + 2 < w1.heap.size):Told B k y w w2:=by
 obtain ⟨h1,h2,⟨a,b,c,d,h3⟩,h4⟩:=h;exact ⟨(hb.block _ (by omega)).trans h1,(hb.block _ (by omega)).trans h2,⟨a,b,c,d,(hb.block _ hs).trans h3⟩,h4.below hb l_⟩
/-- Run's deferred closure in a frame that returns. -/
theorem zAP (B : Nat) (v : Value) (l : Bs) (k y : Nat) (hy : (if k < l.length then 7 else 0) = y) (w : World) (hr : w.heap[B + 3]? = some (.cells #[.pointer (some ⟨B + 2, 0, none⟩)] 247 (0, 0)))
    (hn : w.heap[B]? = some (.cells #[.int .i64 0] 3 (0, 0))) (he : w.heap[B + 1]? = some (.cells #[.int .i64 0] 28 (0, 0))) (hR : Rdr w (B + 2) v l k) :
    CallsD prog 210 #[.pointer (some ⟨B + 3, 0, none⟩), .pointer (some ⟨B, 0, none⟩), .pointer (some ⟨B + 1, 0, none⟩)] .returning w fun r u' w' =>
      r = .returned (.tuple #[]) /\ u' = .returning /\ Told B k y w w' := by
 have hr0:=cell_of_one hr;have hlt:B + 3 < w.heap.size:=(Array.getElem?_eq_some_iff.1 hr).1;refine callsD_of_wpS func210 rfl fun c₀ cs hu=>?_
 simp only [ntmps210, List.size_toArray, List.length_cons, List.length_nil, Nat.reduceAdd, Nat.reduceSub, Array.replicate_succ,
    Array.replicate_zero, List.push_toArray, List.append_toArray, List.nil_append, List.cons_append]
 apply wpS_seq;apply wpS_of_wp;go_wp2_with fail;refine (zl3 _ _ _ _ _ hR y hy).mono ?_;rintro e w1 ⟨rfl,hb1⟩;have hr1:=(hb1.block _ (by omega)).trans hr;have hn1:=(hb1.block _ (by omega)).trans hn;have he1:=(hb1.block _ (by omega)).trans he;have hR1:=(hb1.block _ (by omega)).trans hR.blk;have hbB:Only (fun j=>B<=j/\j < B + 4) w w1:=(Only.refl _ _).below hb1 (Nat.le_refl _);clear hr hn he hR hb1 hr0;have n0:=cell_of_one hn1;have n1:=free_of_one hn1;have e0:=cell_of_one he1;have e1:=free_of_one he1;have r0:=cell_of_one hr1;have HR:=Lib.hid hr1;have HN:=Lib.hid hn1;have HE:=Lib.hid he1;have HD:=Lib.hid hR1;have HB:=Lib.hid hbB;clear hr1 hn1 he1 hR1 hbB;go_wp2;simp only [Exit.thenS];obtain ⟨w2,hw2⟩:=nm_ ((w1.setCell ⟨B,0,none⟩ (.int .i64 (k:Int))).setCell ⟨B + 1,0,none⟩ (.int .i64 (y:Int)));have n2:w2.heap[B]?=some (.cells #[.int .i64 (k:Int)] 3 (0,0)):=by rw [hw2];exact (Below.heap_setCell _ ⟨B + 1,0,none⟩ _ _ (by simp)).trans (one_setCell HN.o)
 have e2:w2.heap[B + 1]?=some (.cells #[.int .i64 (y:Int)] 28 (0,0)):=by rw [hw2];exact one_setCell ((Below.heap_setCell _ ⟨B,0,none⟩ _ _ (by simp)).trans HE.o)
 have r2:=(Below.heap_setCell (w1.setCell ⟨B,0,none⟩ (.int .i64 (k:Int))) ⟨B + 1,0,none⟩ (.int .i64 (y:Int)) (B + 3) (by simp)).trans ((Below.heap_setCell w1 ⟨B,0,none⟩ (.int .i64 (k:Int)) (B + 3) (by simp)).trans HR.o);have d2:=(Below.heap_setCell (w1.setCell ⟨B,0,none⟩ (.int .i64 (k:Int))) ⟨B + 1,0,none⟩ (.int .i64 (y:Int)) (B + 2) (by simp)).trans ((Below.heap_setCell w1 ⟨B,0,none⟩ (.int .i64 (k:Int)) (B + 2) (by simp)).trans HD.o);have b2:Only (fun j=>B<=j/\j < B + 4) w w2:=by rw [hw2];exact (HB.setCell (p:=⟨B,0,none⟩) (by dsimp only;omega) _).setCell (p:=⟨B + 1,0,none⟩) (by dsimp only;omega) _
 rw [<- hw2] at r2 d2 ⊢;clear hw2 n0 n1 e0 e1 r0 HR HN HE HD HB;have r0:=cell_of_one r2;have c0:w2.cell? ⟨B + 2,0,none⟩=some v:=by rw [cell_of_row _ _ _ _ _ _ d2];rfl
 have c1:w2.cell? ⟨B + 2,1,none⟩=some (.int .i64 k):=by rw [cell_of_row _ _ _ _ _ _ d2];rfl
 have c2:w2.cell? ⟨B + 2,2,none⟩=some (.bool true):=by rw [cell_of_row _ _ _ _ _ _ d2];rfl
 have c3:w2.cell? ⟨B + 2,3,none⟩=some (.int .i64 0):=by rw [cell_of_row _ _ _ _ _ _ d2];rfl
 have c4:w2.cell? ⟨B + 2,4,none⟩=some (.int .i64 0):=by rw [cell_of_row _ _ _ _ _ _ d2];rfl
 have f0:w2.frozen? ⟨B + 2,0,none⟩=false:=frozen_of_row _ _ _ _ _ d2;have f1:w2.frozen? ⟨B + 2,1,none⟩=false:=frozen_of_row _ _ _ _ _ d2;have f2:w2.frozen? ⟨B + 2,2,none⟩=false:=frozen_of_row _ _ _ _ _ d2;have f3:w2.frozen? ⟨B + 2,3,none⟩=false:=frozen_of_row _ _ _ _ _ d2;have f4:w2.frozen? ⟨B + 2,4,none⟩=false:=frozen_of_row _ _ _ _ _ d2;have HR:=Lib.hid r2;have HN:=Lib.hid n2;have HE:=Lib.hid e2;have HD:=Lib.hid d2;have HB:=Lib.hid b2;clear r2 n2 e2 d2 b2;apply wpS_seq;apply wpS_of_wp;go_wp2;simp only [Exit.thenS];obtain ⟨w3,hw3⟩:=nm_ (((((w2.setCell ⟨B + 2,0,none⟩ (.slice none 0 0)).setCell ⟨B + 2,1,none⟩ (.int .i64 0)).setCell ⟨B + 2,2,none⟩ (.bool false)).setCell ⟨B + 2,3,none⟩ (.int .i64 0)).setCell ⟨B + 2,4,none⟩ (.int .i64 0));rw [<- hw3];have old:∀ j,j≠B + 2->w3.heap[j]?=w2.heap[j]?:=fun j hj=>by
  rw [hw3,Below.heap_setCell _ _ _ _ hj,Below.heap_setCell _ _ _ _ hj,Below.heap_setCell _ _ _ _ hj,Below.heap_setCell _ _ _ _ hj,Below.heap_setCell _ _ _ _ hj]
 have d3:w3.heap[B + 2]?=some (.cells #[.slice none 0 0,.int .i64 0,.bool false,.int .i64 0,.int .i64 0] 291 (0,0)):=by
  rw [hw3];exact block_setCell (block_setCell (block_setCell (block_setCell (block_setCell HD.o _) _) _) _) _
 have hbel:Only (fun j=>B<=j/\j < B + 4) w w3:=by
  rw [hw3];exact ((((HB.setCell (p:=⟨B + 2,0,none⟩) (by dsimp only;omega) _).setCell (p:=⟨B + 2,1,none⟩) (by dsimp only;omega) _).setCell (p:=⟨B + 2,2,none⟩) (by dsimp only;omega) _).setCell (p:=⟨B + 2,3,none⟩) (by dsimp only;omega) _).setCell (p:=⟨B + 2,4,none⟩) (by dsimp only;omega) _
 have r3:=(old (B + 3) (by omega)).trans HR.o;have n3:=(old B (by omega)).trans HN.o;have e3:=(old (B + 1) (by omega)).trans HE.o;have hT:Told B k y w w3:=⟨n3,e3,⟨_,_,_,_,d3⟩,hbel⟩;clear hw3 old d3 hbel n3 e3 HR HN HE HD HB r0 c0 c1 c2 c3 c4 f0 f1 f2 f3 f4;have r0:=cell_of_one r3;have HR:=Lib.hid r3;have HT:=Lib.hid hT;clear r3 hT;apply wpS_seq;apply wpS_region;simp [wpOpsS,go_sem,recoverD,hu,Exit.thenS];apply wpS_of_wp;go_wp2;exact ⟨rfl,_,by cases c₀;simp_all,_,results_none rfl _ _ _,rfl,rfl,HT.o⟩
/-- .. in a frame that panics with the reader's own end. -/
theorem zx6 (B : Nat) (v : Value) (l : Bs) (k y : Nat) (hx : y ≠ 0) (w : World) (hr : w.heap[B + 3]? = some (.cells #[.pointer (some ⟨B + 2, 0, none⟩)] 247 (0, 0)))
    (hn : w.heap[B]? = some (.cells #[.int .i64 0] 3 (0, 0))) (he : w.heap[B + 1]? = some (.cells #[.int .i64 0] 28 (0, 0))) (hR : zi9 w (B + 2) v l k y) :
    CallsD prog 210 #[.pointer (some ⟨B + 3, 0, none⟩), .pointer (some ⟨B, 0, none⟩), .pointer (some ⟨B + 1, 0, none⟩)] (.panicking [{ v := zaR (B + 2) y, recovered := false }]) w fun r u' w' =>
      r = .returned (.tuple #[]) /\ u' = .panicking [{ v := zaR (B + 2) y, recovered := true }] /\ Told B k y w w' := by
 have hpp:=zB1 ⟨B + 2,0,none⟩;have hta:∀ (u:World),(Instr.typeAssert (.iface 294 (.agg #[.pointer (some ⟨B + 2,0,none⟩)])) 20 294 true).run prog u=.ok (.tuple #[.agg #[.pointer (some ⟨B + 2,0,none⟩)],.bool true]) u:=fun u=>by kernel_rfl
 have hin:∀ (u:World),(binOp .eql 20 (.iface 294 (.agg #[.pointer (some ⟨B + 2,0,none⟩)])) .nilIface).run prog u=.ok (.bool false) u:=fun u=>rfl;have hr0:=cell_of_one hr;have hlt:B + 3 < w.heap.size:=(Array.getElem?_eq_some_iff.1 hr).1;refine callsD_of_wpS func210 rfl fun c₀ cs hu=>?_
 simp only [ntmps210, List.size_toArray, List.length_cons, List.length_nil, Nat.reduceAdd, Nat.reduceSub, Array.replicate_succ,
    Array.replicate_zero, List.push_toArray, List.append_toArray, List.nil_append, List.cons_append]
 apply wpS_seq;apply wpS_of_wp;go_wp2_with fail;refine (znM _ _ _ _ _ _ hx hR).mono ?_;rintro e w1 ⟨rfl,hb1⟩;have hr1:=(hb1.block _ (by omega)).trans hr;have hn1:=(hb1.block _ (by omega)).trans hn;have he1:=(hb1.block _ (by omega)).trans he;have hR1:=(hb1.block _ (by omega)).trans hR.blk;have hbB:Only (fun j=>B<=j/\j < B + 4) w w1:=(Only.refl _ _).below hb1 (Nat.le_refl _);clear hr hn he hR hb1 hr0;have n0:=cell_of_one hn1;have n1:=free_of_one hn1;have e0:=cell_of_one he1;have e1:=free_of_one he1;have r0:=cell_of_one hr1;have HR:=Lib.hid hr1;have HN:=Lib.hid hn1;have HE:=Lib.hid he1;have HD:=Lib.hid hR1;have HB:=Lib.hid hbB;clear hr1 hn1 he1 hR1 hbB;go_wp2;simp only [Exit.thenS];obtain ⟨w2,hw2⟩:=nm_ ((w1.setCell ⟨B,0,none⟩ (.int .i64 (k:Int))).setCell ⟨B + 1,0,none⟩ (.int .i64 (y:Int)));have n2:w2.heap[B]?=some (.cells #[.int .i64 (k:Int)] 3 (0,0)):=by rw [hw2];exact (Below.heap_setCell _ ⟨B + 1,0,none⟩ _ _ (by simp)).trans (one_setCell HN.o)
 have e2:w2.heap[B + 1]?=some (.cells #[.int .i64 (y:Int)] 28 (0,0)):=by rw [hw2];exact one_setCell ((Below.heap_setCell _ ⟨B,0,none⟩ _ _ (by simp)).trans HE.o)
 have r2:=(Below.heap_setCell (w1.setCell ⟨B,0,none⟩ (.int .i64 (k:Int))) ⟨B + 1,0,none⟩ (.int .i64 (y:Int)) (B + 3) (by simp)).trans ((Below.heap_setCell w1 ⟨B,0,none⟩ (.int .i64 (k:Int)) (B + 3) (by simp)).trans HR.o);have d2:=(Below.heap_setCell (w1.setCell ⟨B,0,none⟩ (.int .i64 (k:Int))) ⟨B + 1,0,none⟩ (.int .i64 (y:Int)) (B + 2) (by simp)).trans ((Below.heap_setCell w1 ⟨B,0,none⟩ (.int .i64 (k:Int)) (B + 2) (by simp)).trans HD.o);have b2:Only (fun j=>B<=j/\j < B + 4) w w2:=by rw [hw2];exact (HB.setCell (p:=⟨B,0,none⟩) (by dsimp only;omega) _).setCell (p:=⟨B + 1,0,none⟩) (by dsimp only;omega) _
 rw [<- hw2] at r2 d2 ⊢;clear hw2 n0 n1 e0 e1 r0 HR HN HE HD HB;have r0:=cell_of_one r2;have c0:w2.cell? ⟨B + 2,0,none⟩=some v:=by rw [cell_of_row _ _ _ _ _ _ d2];rfl
 have c1:w2.cell? ⟨B + 2,1,none⟩=some (.int .i64 k):=by rw [cell_of_row _ _ _ _ _ _ d2];rfl
 have c2:w2.cell? ⟨B + 2,2,none⟩=some (.bool true):=by rw [cell_of_row _ _ _ _ _ _ d2];rfl
 have c3:w2.cell? ⟨B + 2,3,none⟩=some (.int .i64 y):=by rw [cell_of_row _ _ _ _ _ _ d2];rfl
 have c4:w2.cell? ⟨B + 2,4,none⟩=some (.int .i64 k):=by rw [cell_of_row _ _ _ _ _ _ d2];rfl
 have f0:w2.frozen? ⟨B + 2,0,none⟩=false:=frozen_of_row _ _ _ _ _ d2;have f1:w2.frozen? ⟨B + 2,1,none⟩=false:=frozen_of_row _ _ _ _ _ d2;have f2:w2.frozen? ⟨B + 2,2,none⟩=false:=frozen_of_row _ _ _ _ _ d2;have f3:w2.frozen? ⟨B + 2,3,none⟩=false:=frozen_of_row _ _ _ _ _ d2;have f4:w2.frozen? ⟨B + 2,4,none⟩=false:=frozen_of_row _ _ _ _ _ d2;have HR:=Lib.hid r2;have HN:=Lib.hid n2;have HE:=Lib.hid e2;have HD:=Lib.hid d2;have HB:=Lib.hid b2;clear r2 n2 e2 d2 b2;apply wpS_seq;apply wpS_of_wp;go_wp2;simp only [Exit.thenS];obtain ⟨w3,hw3⟩:=nm_ (((((w2.setCell ⟨B + 2,0,none⟩ (.slice none 0 0)).setCell ⟨B + 2,1,none⟩ (.int .i64 0)).setCell ⟨B + 2,2,none⟩ (.bool false)).setCell ⟨B + 2,3,none⟩ (.int .i64 0)).setCell ⟨B + 2,4,none⟩ (.int .i64 0));rw [<- hw3];have old:∀ j,j≠B + 2->w3.heap[j]?=w2.heap[j]?:=fun j hj=>by
  rw [hw3,Below.heap_setCell _ _ _ _ hj,Below.heap_setCell _ _ _ _ hj,Below.heap_setCell _ _ _ _ hj,Below.heap_setCell _ _ _ _ hj,Below.heap_setCell _ _ _ _ hj]
 have d3:w3.heap[B + 2]?=some (.cells #[.slice none 0 0,.int .i64 0,.bool false,.int .i64 0,.int .i64 0] 291 (0,0)):=by
  rw [hw3];exact block_setCell (block_setCell (block_setCell (block_setCell (block_setCell HD.o _) _) _) _) _
 have hbel:Only (fun j=>B<=j/\j < B + 4) w w3:=by
  rw [hw3];exact ((((HB.setCell (p:=⟨B + 2,0,none⟩) (by dsimp only;omega) _).setCell (p:=⟨B + 2,1,none⟩) (by dsimp only;omega) _).setCell (p:=⟨B + 2,2,none⟩) (by dsimp only;omega) _).setCell (p:=⟨B + 2,3,none⟩) (by dsimp only;omega) _).setCell (p:=⟨B + 2,4,none⟩) (by dsimp only;omega) _
 have r3:=(old (B + 3) (by omega)).trans HR.o;have n3:=(old B (by omega)).trans HN.o;have e3:=(old (B + 1) (by omega)).trans HE.o;have hT:Told B k y w w3:=⟨n3,e3,⟨_,_,_,_,d3⟩,hbel⟩;clear hw3 old d3 hbel n3 e3 HR HN HE HD HB r0 c0 c1 c2 c3 c4 f0 f1 f2 f3 f4;have r0:=cell_of_one r3;have HR:=Lib.hid r3;have HT:=Lib.hid hT;clear r3 hT;apply wpS_seq;apply wpS_region;simp [wpOpsS,go_sem,recoverD,hu,Exit.thenS];apply wpS_of_wp;simp only [zaR];have hlt3:B + 3 < w3.heap.size:=(Array.getElem?_eq_some_iff.1 HR.o).1;have r4:∀ o,(w3.alloc o).cell? ⟨B + 3,0,none⟩=some (.pointer (some ⟨B + 2,0,none⟩)):=fun o=>(World.cell?_of_block (w:=w3) (w':=w3.alloc o) (a:=⟨B + 3,0,none⟩) (Below.heap_alloc _ _ _ hlt3)).trans r0;have HT4:∀ o,Told B k y w (w3.alloc o):=fun o=>HT.later ((Below.refl _ w3).alloc (Nat.le_refl _) o) (by omega);clear r0;go_wp2;exact ⟨rfl,_,rfl,_,results_none rfl _ _ _,rfl,rfl,HT4 _⟩
theorem zk4 {f : FuncId} {fn : Func} {c : Code} (hf : prog.funcs[f]? = some fn) (hname : (fn.name == "runtime.NumGoroutine") = false) (hb : fn.body = some c) (args : Array Value) (u : World) : (callFunc f args).run prog u = .ok (.enter f args) u := by
 have h1 : fn.name ≠ "runtime.NumGoroutine" := by simpa using hname
 simp [callFunc,hf,h1,hb,mark]
def Went (g:Nat) (v:Value) (l:Bs) (k x:Nat) (e:Ending) (w:World):Prop :=
 (x=0/\e=.returned (.tuple #[])/\Rdr w g v l k)∨(x≠0/\e=.panicked [{ v:=zaR g x,recovered:=false }]/\zi9 w g v l k x)
def told (l:Bs) (k x:Nat):Nat:=if x=0 then (if k < l.length then 7 else 0) else x
theorem zjC (n:Nat) (hn:∀ (args:Array Value) (u:World),(callFunc n args).run prog u=.ok (.enter n args) u) (cap:Array Value) (v:Value) (l:Bs) (w:World) (h:Rd w v l) (Post:Nat->Nat->Nat->World->Prop)
  (hP:∀ g k x a b,Post g k x a->w.heap.size + 4<=a.heap.size->Only (fun j=>w.heap.size<=j/\j < w.heap.size + 4) a b->Post g k x b)
  (hf:∀ g w1,w.heap.size<=g->w.heap.size + 4<=w1.heap.size->g < w.heap.size + 4->Below w.heap.size w w1->Rdr w1 g v l 0 ->
   Calls prog n (#[.pointer (some ⟨g,0,none⟩)] ++ cap) w1 fun e w2=>∃ k x,Kept w.heap.size g w1 w2/\Post g k x w2/\Went g v l k x e w2) :
  Calls prog 160 #[v,.func (.func n) #[] cap] w fun e w'=>∃ g k x,k<=l.length/\w.heap.size<=g/\Post g k x w'/\Shut w' g /\
   e=.returned (.tuple #[.int .i64 (k:Int),.int .i64 (told l k x:Int)]):=by
 have hmf:∀ (fn:Fn) (first cap:Array Value) (w:World),(Instr.makeFunc fn first cap).run prog w=.ok (.func fn first cap) w:=fun _ _ _ _=>rfl;have hnf:∀ u,(binOp .eql 249 (.func (.func n) #[] cap) .nilFunc).run prog u=.ok (.bool false) u:=fun u=>rfl;have HP:=h_ hP;have HF:=h_ hf;clear hP hf;obtain ⟨ao,c,hv,_⟩:=id h.shape;subst hv;go_enter_defers func160,ntmps160;go_wp2_with fail;have hblk:(((w.alloc (.cells #[.int .i64 0] 3)).alloc (.cells #[.int .i64 0] 28)).alloc (.cells #[.slice ao l.length c,.int .i64 0,.bool true,.int .i64 0,.int .i64 0] 291)).heap.size=w.heap.size + 3:=by simp
 obtain ⟨w1,hw1⟩:=nm_ ((((w.alloc (.cells #[.int .i64 0] 3)).alloc (.cells #[.int .i64 0] 28)).alloc (.cells #[.slice ao l.length c,.int .i64 0,.bool true,.int .i64 0,.int .i64 0] 291)).alloc (.cells #[.pointer (some ⟨w.heap.size + 1 + 1,0,none⟩)] 247));rw [<- hw1];have hs1:w1.heap.size=w.heap.size + 4:=by rw [hw1];simp
 have hb1:Below w.heap.size w w1:=by
  rw [hw1];exact ((((Below.refl _ w).alloc l_ _).alloc (by simp) _).alloc (by simp [Nat.add_assoc]) _).alloc (by simp [Nat.add_assoc]) _
 have hB0:w1.heap[w.heap.size]?=some (.cells #[.int .i64 0] 3 (0,0)):=by
  rw [hw1,Below.heap_alloc _ _ _ (by simp [Nat.add_assoc]),Below.heap_alloc _ _ _ (by simp [Nat.add_assoc]),Below.heap_alloc _ _ _ (by simp)];exact heap_alloc_new _ _
 have hB1:w1.heap[w.heap.size + 1]?=some (.cells #[.int .i64 0] 28 (0,0)):=by
  rw [hw1,Below.heap_alloc _ _ _ (by simp [Nat.add_assoc]),Below.heap_alloc _ _ _ (by simp)];have:=heap_alloc_new (w.alloc (.cells #[.int .i64 0] 3)) (.cells #[.int .i64 0] 28 (0,0));simpa using this
 have hB2:w1.heap[w.heap.size + 2]?=some (.cells #[.slice ao l.length c,.int .i64 0,.bool true,.int .i64 0,.int .i64 0] 291 (0,0)):=by
  rw [hw1,Below.heap_alloc _ _ _ (by simp)];have:=heap_alloc_new ((w.alloc (.cells #[.int .i64 0] 3)).alloc (.cells #[.int .i64 0] 28 (0,0))) (.cells #[.slice ao l.length c,.int .i64 0,.bool true,.int .i64 0,.int .i64 0] 291 (0,0));simpa using this
 have hB3:w1.heap[w.heap.size + 3]?=some (.cells #[.pointer (some ⟨w.heap.size + 2,0,none⟩)] 247 (0,0)):=by
  rw [hw1,<- hblk];exact heap_alloc_new _ _
 have hR:Rdr w1 (w.heap.size + 2) (.slice ao l.length c) l 0:=⟨hB2,Nat.zero_le _,h.later hb1 l_,fun i hi=>by have:=h.block hi;omega⟩;clear hw1 hblk;rw [show w.heap.size + 1 + 1 + 1=w.heap.size + 3 from rfl,show w.heap.size + 1 + 1=w.heap.size + 2 from rfl];refine (HF.o (w.heap.size + 2) w1 (by omega) (by omega) (by omega) hb1 hR).mono ?_;rintro e w2 ⟨k,x,hk,hp,hwent⟩;have hn2:=(hk.block w.heap.size (by omega) (by omega) (by omega)).trans hB0;have he2:=(hk.block (w.heap.size + 1) (by omega) (by omega) (by omega)).trans hB1;have hr2:=(hk.block (w.heap.size + 3) (by omega) (by omega) (by omega)).trans hB3;have hs2:=hk.size;clear hB0 hB1 hB2 hB3 hk hR hb1;rcases hwent with ⟨rfl,rfl,hR⟩ | ⟨hx,rfl,hE⟩
 ·have c0:=cell_of_one hr2;have hle:=hR.le;dsimp only;go_wp2;refine leaves_cons (f:=210) (args:=#[.pointer (some ⟨w.heap.size + 3,0,none⟩),.pointer (some ⟨w.heap.size,0,none⟩),.pointer (some ⟨w.heap.size + 1,0,none⟩)]) (by simp) (by simp [go_sem]) ?_;obtain ⟨y,hy⟩:∃ y:Nat,(if k < l.length then 7 else 0)=y:=⟨_,rfl⟩;refine (zAP w.heap.size _ l k y hy _ hr2 hn2 he2 hR).mono ?_;rintro e u w4 ⟨rfl,rfl,h1,h2,h3,h4⟩;have d1:=cell_of_one h1;have d2:=cell_of_one h2;have hp5:=HP.o _ _ _ _ _ hp (by omega) h4;simp [Leaves,settle,results,results160,go_sem,d1,d2];exact ⟨_,k,hle,by omega,0,hp5,h3,rfl,by simp [told,hy]⟩
 go_wp2;refine leaves_cons (f:=210) (args:=#[.pointer (some ⟨w.heap.size + 3,0,none⟩),.pointer (some ⟨w.heap.size,0,none⟩),.pointer (some ⟨w.heap.size + 1,0,none⟩)]) (by simp) (by simp [go_sem]) ?_;refine (zx6 w.heap.size _ l k x hx w2 hr2 hn2 he2 hE).mono ?_;rintro e u w3 ⟨rfl,rfl,h1,h2,h3,h4⟩;have d1:=cell_of_one h1;have d2:=cell_of_one h2;have hp5:=HP.o _ _ _ _ _ hp (by omega) h4;simp [Leaves,settle,results,results160,go_sem,d1,d2];exact ⟨_,k,hE.le,by omega,x,hp5,h3,rfl,by simp [told,hx]⟩
/- -/
structure Mdl (w:World) (m:Nat) (v:Value) (l:Bs) (k x:Nat):Prop where
 blk:w.heap[m]?=some (.cells #[v,.int .i64 (k:Int),.int .i64 (x:Int)] 226 (0,0))
 le:k<=l.length
 rd:Rd w v l
 off:∀ i,i < l.length->(adr v i).block≠m
section
variable {w w':World} {m:Nat} {v:Value} {l:Bs} {k x:Nat}
theorem Mdl.lt (h:Mdl w m v l k x):m < w.heap.size:=(Array.getElem?_eq_some_iff.1 h.blk).1
theorem Mdl.cell0 (h:Mdl w m v l k x):w.cell? ⟨m,0,none⟩=some v:=by rw [cell_of_row _ _ _ _ _ _ h.blk];rfl
theorem Mdl.cell1 (h:Mdl w m v l k x):w.cell? ⟨m,1,none⟩=some (.int .i64 k):=by rw [cell_of_row _ _ _ _ _ _ h.blk];rfl
theorem Mdl.cell2 (h:Mdl w m v l k x):w.cell? ⟨m,2,none⟩=some (.int .i64 x):=by rw [cell_of_row _ _ _ _ _ _ h.blk];rfl
theorem Mdl.free (h:Mdl w m v l k x) (i:Nat):w.frozen? ⟨m,i,none⟩=false:=frozen_of_row _ _ _ _ _ h.blk
theorem Mdl.same (h:Mdl w m v l k x) (hg:w'.heap[m]?=w.heap[m]?) (hs:∀ i,i < l.length->w'.heap[(adr v i).block]?=w.heap[(adr v i).block]?):Mdl w' m v l k x :=
 ⟨hg.trans h.blk,h.le,h.rd.same hs,h.off⟩
theorem Mdl.setAt (h:Mdl w m v l k x) {n:Nat} (hn:n<=l.length):Mdl (w.setCell ⟨m,1,none⟩ (.int .i64 n)) m v l n x :=
 ⟨block_setCell h.blk _,hn,h.rd.same fun i hi=>Below.heap_setCell _ _ _ _ (h.off i hi),h.off⟩
theorem Mdl.setErr (h:Mdl w m v l k x) (y:Nat):Mdl (w.setCell ⟨m,2,none⟩ (.int .i64 y)) m v l k y :=
 ⟨block_setCell h.blk _,h.le,h.rd.same fun i hi=>Below.heap_setCell _ _ _ _ (h.off i hi),h.off⟩
theorem Mdl.later {B:Nat} (h:Mdl w m v l k x) (hb:Below B w w') (hB:w.heap.size<=B):Mdl w' m v l k x :=
 h.same (hb.block _ (Nat.lt_of_lt_of_le h.lt hB)) fun i hi=>hb.block _ (Nat.lt_of_lt_of_le (h.rd.block hi) hB)
theorem Mdl.drew (h:Mdl w m v l k x):Mdl w.drew m v l k x:=⟨h.blk,h.le,h.rd.drew,h.off⟩
theorem Mdl.only {S:Nat->Prop} (h:Mdl w m v l k x) (hO:Only S w w') (hm:¬ S m) (hS:∀ i,i < l.length->¬ S (adr v i).block):Mdl w' m v l k x :=
 h.same (hO.block _ h.lt hm) fun i hi=>hO.block _ (h.rd.block hi) (hS i hi)
end
def Does (w:World) (m:Nat) (v:Value) (l:Bs) (val:Value) (k' x':Nat) (e:Ending) (w':World):Prop:=e=.returned val/\w.grownBy w' (some m)/\Mdl w' m v l k' x'
theorem zbY (m:Nat) (v:Value) (l:Bs) (k x:Nat) (w:World) (hM:Mdl w m v l k x) :
  Calls prog 200 #[.pointer (some ⟨m,0,none⟩)] w fun e w'=>∃ u,e=.returned u/\Below w.heap.size w w'/\∀ w2,Rd w2 v l->Rd w2 u (l.drop k):=by
 have c0:=hM.cell0;have c1:=hM.cell1;obtain ⟨vb,hsl,hrd⟩:=hM.rd.from k hM.le;clear hM;go_enter func200,ntmps200;go_wp2;go_region;go_wp2;go_ret;exact ⟨_,rfl,(Below.refl _ _).drew,hrd⟩
theorem zv6 (m:Nat) (v:Value) (l:Bs) (k:Nat) (w:World) (hM:Mdl w m v l k 0) :
  Calls prog 198 #[.pointer (some ⟨m,0,none⟩)] w (Does w m v l (.int .u8 (if k < l.length then at8 l k else 0)) (if k < l.length then k + 1 else k) (if k < l.length then 0 else 5)):=by
 have hsm:=hM.rd.small;have hle:=hM.le;have e2:=hM.cell2;by_cases hk:k < l.length
 ·simp only [if_pos hk];go_enter func198,ntmps198;go_wp2_with fail;refine (zbY _ _ _ _ _ _ hM).mono ?_;rintro e w0 ⟨u,rfl,hb0,hu⟩;have hMd:=hM.later hb0 l_;have hul:=(hu _ hMd.rd).len;have hz:((((l.drop k).length:Nat):Int) == 0)=false:=by simp;omega
  have c1:=hMd.cell1;have f1:=hMd.free 1;have hS:=hMd.setAt (n:=k + 1) (by omega);have d0:=hS.cell0;have d1:=hS.cell1;have hidx:=hS.rd.idx k hk;have hcel:=hS.rd.cells k hk;have hg:w.grownBy (w0.setCell ⟨m,1,none⟩ (.int .i64 ((k + 1:Nat):Int))) (some m):=za2 (below_grown hb0 _) _;have HS:=h_ hS;have HG:=h_ hg;clear hM hMd hS hg hu hb0;rw [show ((k + 1:Nat):Int)=(k:Int) + 1 from by omega] at *;generalize (l.drop k).length=q at *;go_wp2;go_region;go_wp2;go_ret;exact ⟨rfl,HG.trans_drew,HS.drew⟩
 simp only [if_neg hk];obtain rfl:k=l.length:=by omega
 go_enter func198,ntmps198;go_wp2_with fail;refine (zbY _ _ _ _ _ _ hM).mono ?_;rintro e w0 ⟨u,rfl,hb0,hu⟩;have hMd:=hM.later hb0 l_;have hul:=(hu _ hMd.rd).len;have hz:((((l.drop l.length).length:Nat):Int) == 0)=true:=by simp
 have c2:=hMd.cell2;have f2:=hMd.free 2;have HS:=h_ (hMd.setErr 5);have HG:w.grownBy (w0.setCell ⟨m,2,none⟩ (.int .i64 ((5:Nat):Int))) (some m):=za2 (below_grown hb0 _) _;have HG:=h_ HG;clear hM hMd hu hb0;generalize (l.drop l.length).length=q at *;go_wp2;go_ret;exact ⟨rfl,HG.o,HS.o⟩
theorem zcF (m:Nat) (v:Value) (l:Bs) (k:Nat) (w:World) (hM:Mdl w m v l k 0) (most:Nat) (hm:most < 18446744073709551616) :
  Calls prog 142 #[.pointer (some ⟨m,0,none⟩),.int .u64 (most:Int)] w (Does w m v l (.int .u64 ((rdU l k most).1:Int)) (rdU l k most).2.1 (rdU l k most).2.2):=by
 have hsm:=hM.rd.small;have hle:=hM.le;have e2:=hM.cell2;have hg:=zaU (l.drop k);rcases hr:getU (l.drop k) with ⟨x,n,er⟩
 rw [hr] at hg;dsimp only at hg;have HU:=h_ hr;by_cases he:er=0
 ·subst he;obtain ⟨hx,hn1,hn2,hn3⟩:=hg rfl;simp only [List.length_drop] at hn2;by_cases hx2:most < x
  ·have hd:rdU l k most=(0,k,3):=(by unfold rdU;rw [hr];dsimp only;rw [if_neg (by simp),if_pos hx2]);rw [hd];dsimp only;clear hr hd;go_enter func142,ntmps142;go_wp2_with fail;refine (zbY _ _ _ _ _ _ hM).mono ?_;rintro e w0 ⟨u,rfl,hb0,hu⟩;have hMd:=hM.later hb0 l_;go_wp2_with fail;refine (zb6 _ _ _ (hu _ hMd.rd)).mono ?_;rintro e w1 ⟨rfl,rfl⟩;rw [HU.o];have c2:=hMd.cell2;have f2:=hMd.free 2;have HS:=h_ (hMd.setErr 3);have HG:w.grownBy (w0.setCell ⟨m,2,none⟩ (.int .i64 ((3:Nat):Int))) (some m):=za2 (below_grown hb0 _) _;have HG:=h_ HG;clear hM hMd hu hb0;go_wp2;go_ret;exact ⟨rfl,HG.o,HS.o⟩
  have hd:rdU l k most=(x,k + n,0):=by unfold rdU;rw [hr];dsimp only;rw [if_neg (by simp),if_neg hx2]
  rw [hd];dsimp only;clear hr hd;go_enter func142,ntmps142;go_wp2_with fail;refine (zbY _ _ _ _ _ _ hM).mono ?_;rintro e w0 ⟨u,rfl,hb0,hu⟩;have hMd:=hM.later hb0 l_;go_wp2_with fail;refine (zb6 _ _ _ (hu _ hMd.rd)).mono ?_;rintro e w1 ⟨rfl,rfl⟩;rw [HU.o];have c1:=hMd.cell1;have f1:=hMd.free 1;have hS:=hMd.setAt (n:=k + n) (by omega);have hgs:w.grownBy (w0.setCell ⟨m,1,none⟩ (.int .i64 ((k + n:Nat):Int))) (some m):=za2 (below_grown hb0 _) _;have HS:=h_ hS;have HG:=h_ hgs;clear hM hMd hu hb0 hS hgs;rw [show ((k + n:Nat):Int)=(k:Int) + (n:Int) from by omega] at *;go_wp2;go_ret;exact ⟨rfl,HG.o,HS.o⟩
 have hd:rdU l k most=(0,k,er):=by unfold rdU;rw [hr];dsimp only;rw [if_pos he]
 rw [hd];dsimp only;have hne:((er:Int) != 0)=true:=by simp;omega
 have hne':((er:Int) == 0)=false:=by simp;omega
 clear hr hd;go_enter func142,ntmps142;go_wp2_with fail;refine (zbY _ _ _ _ _ _ hM).mono ?_;rintro e w0 ⟨u,rfl,hb0,hu⟩;have hMd:=hM.later hb0 l_;go_wp2_with fail;refine (zb6 _ _ _ (hu _ hMd.rd)).mono ?_;rintro e w1 ⟨rfl,rfl⟩;rw [HU.o];have c2:=hMd.cell2;have f2:=hMd.free 2;have HS:=h_ (hMd.setErr er);have HG:w.grownBy (w0.setCell ⟨m,2,none⟩ (.int .i64 (er:Int))) (some m):=za2 (below_grown hb0 _) _;have HG:=h_ HG;clear hM hMd hu hb0;go_wp2;go_ret;exact ⟨rfl,HG.o,HS.o⟩
theorem zxH {l:Bs} {k most:Nat}:(rdU l k most).1 < 2 ^ 64:=by
 unfold rdU;split
 ·simp
 split
 ·simp
 rename_i h _;exact (zaU _ (Decidable.of_not_not h)).1
theorem zp8 (m:Nat) (v:Value) (l:Bs) (k:Nat) (w:World) (hM:Mdl w m v l k 0) :
  Calls prog 202 #[.pointer (some ⟨m,0,none⟩)] w (Does w m v l (.int .i64 (zag (rdU l k 18446744073709551615).1)) (rdU l k 18446744073709551615).2.1 (rdU l k 18446744073709551615).2.2):=by
 have hx:=zxH (l:=l) (k:=k) (most:=18446744073709551615);rcases hr:rdU l k 18446744073709551615 with ⟨x,n,er⟩
 rw [hr] at hx;dsimp only at hx ⊢;have HR:=h_ hr;clear hr;go_enter func202,ntmps202;go_wp2_with fail;refine (zcF m v l k _ hM 18446744073709551615 (by decide)).mono ?_;rw [HR.o];dsimp only;rintro e w1 ⟨rfl,hg1,hM1⟩;go_wp2_with fail;refine (zDF (x:Int) (by omega) (by omega) _).mono ?_;rintro e w2 ⟨rfl,rfl⟩;go_wp2;go_ret;exact ⟨rfl,hg1,hM1⟩
theorem zjN (m:Nat) (v:Value) (l:Bs) (k:Nat) (w:World) (hM:Mdl w m v l k 0) (most:Int) (hm:-9223372036854775808<=most/\most<=9223372036854775807) :
  Calls prog 197 #[.pointer (some ⟨m,0,none⟩),.int .i64 most] w fun e w'=>∃ val,Does w m v l val (rdB l k most).2.1 (rdB l k most).2.2 e w'/\Own w' w.heap.size val (rdB l k most).1:=by
 have hsm:=hM.rd.small;have hle:=hM.le;have hml:=hM.lt;have e2:=hM.cell2;have hg:=zjQ (l.drop k) most;rcases hr:getB (l.drop k) most with ⟨x,n,er⟩
 rw [hr] at hg;dsimp only at hg;obtain ⟨hn2,hn3,hn4⟩:=hg;simp only [List.length_drop] at hn2;have HU:=h_ hr;by_cases he:er=0
 ·subst he;have hd:rdB l k most=(x,k + n,0):=by unfold rdB;rw [hr];dsimp only;rw [if_neg (by simp)]
  rw [hd];clear hr hd hn4;go_enter func197,ntmps197;go_wp2_with fail;refine (zbY _ _ _ _ _ _ hM).mono ?_;rintro e w0 ⟨u,rfl,hb0,hu⟩;have hMd:=hM.later hb0 l_;go_wp2_with fail;refine (zbG _ _ most hm.1 hm.2 _ (hu _ hMd.rd)).mono ?_;rintro e w1 ⟨v1,rfl,ho1,hb1⟩;rw [HU.o] at ho1 ⊢;dsimp only at ho1 ⊢;have hM1:=hMd.later hb1 l_;have c1:=hM1.cell1;have f1:=hM1.free 1;have hS:=hM1.setAt (n:=k + n) (by omega);have hgs:w.grownBy (w1.setCell ⟨m,1,none⟩ (.int .i64 ((k + n:Nat):Int))) (some m):=za2 ((below_grown hb0 _).trans (below_grown hb1 _)) _;have hO:Own (w1.setCell ⟨m,1,none⟩ (.int .i64 ((k + n:Nat):Int))) w.heap.size v1 x:=ownsRow_setCell_below (ho1.base hb0.size) (a:=⟨m,1,none⟩) hml _;have HS:=h_ hS;have HG:=h_ hgs;clear hM hMd hu hb0 hS hgs hM1 ho1 hb1;rw [show ((k + n:Nat):Int)=(k:Int) + (n:Int) from by omega] at *;go_wp2;go_ret;exact ⟨_,⟨rfl,HG.o,HS.o⟩,hO⟩
 have hd:rdB l k most=([],k,er):=by unfold rdB;rw [hr];dsimp only;rw [if_pos he]
 rw [hd];have hne:((er:Int) != 0)=true:=by simp;omega
 clear hr hd hn4;go_enter func197,ntmps197;go_wp2_with fail;refine (zbY _ _ _ _ _ _ hM).mono ?_;rintro e w0 ⟨u,rfl,hb0,hu⟩;have hMd:=hM.later hb0 l_;go_wp2_with fail;refine (zbG _ _ most hm.1 hm.2 _ (hu _ hMd.rd)).mono ?_;rintro e w1 ⟨v1,rfl,ho1,hb1⟩;rw [HU.o] at ho1 ⊢;dsimp only at ho1 ⊢;have hM1:=hMd.later hb1 l_;have c2:=hM1.cell2;have f2:=hM1.free 2;have HS:=h_ (hM1.setErr er);have HG:w.grownBy (w1.setCell ⟨m,2,none⟩ (.int .i64 (er:Int))) (some m):=za2 ((below_grown hb0 _).trans (below_grown hb1 _)) _;have HG:=h_ HG;clear hM hMd hu hb0 hM1 ho1 hb1;go_wp2;go_ret;exact ⟨_,⟨rfl,HG.o,HS.o⟩,zaT _ _⟩
theorem zcG (m:Nat) (v:Value) (l:Bs) (k:Nat) (w:World) (hM:Mdl w m v l k 0) (ok:Bool) (x:Nat) :
  Calls prog 196 #[.pointer (some ⟨m,0,none⟩),.bool ok,.int .i64 (x:Int)] w (Does w m v l (.tuple #[]) k (if ok then 0 else x)):=by
 have c2:=hM.cell2;have f2:=hM.free 2;cases ok with
 | true =>
  simp only [if_true];go_enter func196,ntmps196;go_wp2;go_end0;exact ⟨rfl,World.grownBy.refl _ _,hM⟩
 | false =>
  simp only [Bool.false_eq_true,if_false];have HS:=h_ (hM.setErr x);have HG:w.grownBy (w.setCell ⟨m,2,none⟩ (.int .i64 (x:Int))) (some m):=za2 (World.grownBy.refl _ _) _;have HG:=h_ HG;clear hM;go_enter func196,ntmps196;go_wp2;go_end0;exact ⟨rfl,HG.o,HS.o⟩
def toldM (l:Bs) (k x:Nat):Nat:=if x=0 then (if k < l.length then 7 else 0) else x
theorem zgW (m:Nat) (v:Value) (l:Bs) (k x:Nat) (w:World) (hM:Mdl w m v l k x) :
  Calls prog 139 #[.pointer (some ⟨m,0,none⟩)] w fun e w'=>e=.returned (.tuple #[.int .i64 (k:Int),.int .i64 (toldM l k x:Int)])/\Below w.heap.size w w':=by
 have c0:=hM.cell0;have c1:=hM.cell1;have c2:=hM.cell2;have hlen:=hM.rd.len;have hle:=hM.le;clear hM;by_cases hx:x=0
 ·subst hx;by_cases hk:k < l.length
  ·have ht:toldM l k 0=7:=(by simp [toldM,hk]);rw [ht];clear ht;have hd:decide ((k:Int) < (l.length:Int))=true:=decide_eq_true (by omega);go_enter func139,ntmps139;go_wp2;go_quiet (fail);go_wp2;go_ret2;exact ⟨rfl,⟨rfl,rfl,rfl,l_,fun _ _=>rfl⟩⟩
  have ht:toldM l k 0=0:=by simp [toldM,hk]
  rw [ht];clear ht;have hd:decide ((k:Int) < (l.length:Int))=false:=decide_eq_false (by omega);go_enter func139,ntmps139;go_wp2;go_quiet (fail);go_wp2;go_region;go_wp2;go_ret2;exact ⟨rfl,⟨rfl,rfl,rfl,l_,fun _ _=>rfl⟩⟩
 have ht:toldM l k x=x:=if_neg hx;rw [ht];clear ht;have hne':((x:Int) == 0)=false:=by simp;omega
 go_enter func139,ntmps139;go_wp2;go_quiet (fail);go_wp2;go_region;go_wp2;go_ret2;exact ⟨rfl,⟨rfl,rfl,rfl,l_,fun _ _=>rfl⟩⟩
/- -/
theorem zbQ (m:Nat) (v:Value) (l:Bs) (k x:Nat) (w:World) (hM:Mdl w m v l k x) (ok:Bool) (y:Nat) :
  Calls prog 196 #[.pointer (some ⟨m,0,none⟩),.bool ok,.int .i64 (y:Int)] w (Does w m v l (.tuple #[]) k (if x=0 then (if ok then 0 else y) else x)):=by
 by_cases hx:x=0
 ·subst hx;rw [if_pos rfl];exact zcG m v l k w hM ok y
 rw [if_neg hx];have c2:=hM.cell2;have hq:((x:Int) == 0)=false:=by rw [beq_eq_false_iff_ne];omega
 have HM:=h_ hM;clear hx hM;go_enter func196,ntmps196;go_wp2;go_end0;exact ⟨rfl,World.grownBy.refl _ _,HM.o⟩
theorem ztB (m:Nat) (v:Value) (l:Bs) (k x:Nat) (w:World) (hM:Mdl w m v l k x) :
  Calls prog 198 #[.pointer (some ⟨m,0,none⟩)] w (Does w m v l (.int .u8 (if x=0 then (if k < l.length then at8 l k else 0) else 0)) (if x=0 then (if k < l.length then k + 1 else k) else k) (if x=0 then (if k < l.length then 0 else 5) else x)):=by
 by_cases hx:x=0
 ·subst hx;simp only [if_true];exact zv6 m v l k w hM
 rw [if_neg hx,if_neg hx,if_neg hx];have c2:=hM.cell2;have hq:((x:Int) != 0)=true:=by rw [bne_iff_ne];omega
 have HM:=h_ hM;clear hx hM;go_enter func198,ntmps198;go_wp2;go_ret;exact ⟨rfl,World.grownBy.refl _ _,HM.o⟩
theorem zyD (m:Nat) (v:Value) (l:Bs) (k x:Nat) (w:World) (hM:Mdl w m v l k x) (most:Int) (hm:-9223372036854775808<=most/\most<=9223372036854775807) :
  Calls prog 197 #[.pointer (some ⟨m,0,none⟩),.int .i64 most] w fun e w'=>∃ val,Does w m v l val (if x=0 then (rdB l k most).2.1 else k) (if x=0 then (rdB l k most).2.2 else x) e w'/\Own w' w.heap.size val (if x=0 then (rdB l k most).1 else []):=by
 by_cases hx:x=0
 ·subst hx;simp only [if_true];exact zjN m v l k w hM most hm
 rw [if_neg hx,if_neg hx,if_neg hx];have c2:=hM.cell2;have hq:((x:Int) != 0)=true:=by rw [bne_iff_ne];omega
 have HM:=h_ hM;clear hx hM;go_enter func197,ntmps197;go_wp2;go_ret;exact ⟨_,⟨rfl,World.grownBy.refl _ _,HM.o⟩,zaT _ _⟩
