/- -/
import Derived.Defers
import Derived.Recover
import Derived.RegionTactic
import Derived.BigRegion
import Derived.Lib.Builder
import Derived.Test.YtgboedffaangeaaGreatDoorVCell
import Derived.Orders
import Derived.Deep.RegionWith
set_option maxHeartbeats 16000000
set_option linter.all false
set_option maxRecDepth 1000000
namespace Go.Proofs.YtgboedffaangeaaGreatDoor
section
open _root_.Go.Proofs.Tryz Go.RowKit
def rdU(l:Bs)(k most:Nat):Nat×Nat×Nat :=
 if(getU (l.drop k)).2.2≠0 then(0,k,(getU (l.drop k)).2.2)
 else if most<(getU (l.drop k)).1 then(0,k,3)
 else((getU (l.drop k)).1,k+(getU (l.drop k)).2.1,0)
def rdB(l:Bs)(k:Nat)(most:Int):Bs×Nat×Nat :=
 if(getB (l.drop k) most).2.2≠0 then([],k,(getB (l.drop k) most).2.2)
 else((getB (l.drop k) most).1,k+(getB (l.drop k) most).2.1,0)
def zl2(l:Bs)(most:Int):(getB l most).2.1<=l.length/\(getB l most).2.2<=13/\((getB l most).2.2≠0->(getB l most).1=[]/\(getB l most).2.1=0):=by
 have b:=zaY l;have f:=zdV l;unfold getB;split
 ·rename_i h;exact⟨by simp,by simp;omega,fun _=>⟨rfl,rfl⟩⟩
 split
 ·exact⟨by simp,by simp,fun _=>⟨rfl,rfl⟩⟩
 split
 ·exact⟨by simp,by simp,fun _=>⟨rfl,rfl⟩⟩
 rename_i h0 h1 h2;have a:(getU l).2.2=0:=Av h0;obtain⟨_,c,d,e⟩:=b a;exact⟨by simp;omega,by simp,fun h=>absurd rfl h⟩
variable {l:Bs} {e:Ending} {B b g k most x:Nat} {v val:Value} {w w':World}
def zAH(g:k<=l.length)(h:(rdU l k most).2.2=0) :(getU (l.drop k)).2.2=0/\¬most<(getU (l.drop k)).1/\rdU l k most=((getU (l.drop k)).1,k+(getU (l.drop k)).2.1,0)/\(rdU l k most).2.1<=l.length/\(rdU l k most).1<2^64:=by
 unfold rdU at h ⊢;by_cases a:(getU (l.drop k)).2.2=0
 .rw[Aa (fun h=>h a)]at h ⊢;by_cases b:most<(getU (l.drop k)).1
  .rw[Ab b]at h;exact absurd h (by simp)
  rw[Aa b];obtain⟨c,e,d,f⟩:=zaY _ a;simp only[Ay]at d;exact⟨a,b,rfl,by dsimp only;omega,c⟩
 rw[Ab a]at h;exact absurd h a
def zFZ(h:(rdU l k most).2.2≠0):(rdU l k most).1=0/\(rdU l k most).2.1=k/\(rdU l k most).2.2<=7:=by
 have a:=zdV (l.drop k);unfold rdU at h ⊢;split
 ·exact⟨rfl,rfl,a⟩
 split
 ·exact⟨rfl,rfl,by simp⟩
 rename_i h1 h2;rw[Aa h1,Aa h2]at h;exact absurd rfl h
structure Rdr(w:World)(g:Nat)(v:Value)(l:Bs)(k:Nat):Prop where
 blk:w.heap[g]?=some (.cells #[v,.int .i64 (k:Int),.bool true,.int .i64 0,.int .i64 0] 321 (0,0))
 le:k<=l.length
 rd:Rd w v l
 off:∀i,i<l.length->(adr v i).block≠g
structure zj7(w:World)(g:Nat)(v:Value)(l:Bs)(k x:Nat):Prop where
 blk:w.heap[g]?=some (.cells #[v,.int .i64 (k:Int),.bool true,.int .i64 (x:Int),.int .i64 (k:Int)] 321 (0,0))
 le:k<=l.length
def Shut(w:World)(g:Nat):Prop:=∃a b c d,w.heap[g]?=some (.cells #[a,b,.bool false,c,d] 321 (0,0))
def zaU(g:Nat)(x:Nat):Value:=.iface 324 (.agg #[.pointer (some ⟨g,0,none⟩)])
def Rdr.lt(h:Rdr w g v l k):g<w.heap.size:=(Aj.1 h.blk).1
def Rdr.cell0(h:Rdr w g v l k):w.cell? ⟨g,0,none⟩=some v:=by rw[Ag _ _ _ _ _ _ h.blk];rfl
def Rdr.cell1(h:Rdr w g v l k):w.cell? ⟨g,1,none⟩=some (.int .i64 k):=by rw[Ag _ _ _ _ _ _ h.blk];rfl
def Rdr.cell2(h:Rdr w g v l k):w.cell? ⟨g,2,none⟩=some (.bool true):=by rw[Ag _ _ _ _ _ _ h.blk];rfl
def Rdr.cell3(h:Rdr w g v l k):w.cell? ⟨g,3,none⟩=some (.int .i64 0):=by rw[Ag _ _ _ _ _ _ h.blk];rfl
def Rdr.cell4(h:Rdr w g v l k):w.cell? ⟨g,4,none⟩=some (.int .i64 0):=by rw[Ag _ _ _ _ _ _ h.blk];rfl
def Rdr.free(h:Rdr w g v l k)(i:Nat):w.frozen? ⟨g,i,none⟩=false:=At _ _ _ _ _ h.blk
def Rd.same(h:Rd w v l)(b:∀i,i<l.length->w'.heap[(adr v i).block]?=w.heap[(adr v i).block]?):Rd w' v l :=
 ⟨h.shape,fun i a=>(Bi (b i a)).trans (h.cells i a),h.small⟩
def Rdr.same{w w':World}{g:Nat}{v:Value}{l:Bs}{k:Nat}(h:Rdr w g v l k)(a:w'.heap[g]?=w.heap[g]?)(b:∀i,i<l.length->w'.heap[(adr v i).block]?=w.heap[(adr v i).block]?):Rdr w' g v l k :=
 ⟨a.trans h.blk,h.le,h.rd.same b,h.off⟩
def Rdr.set(h:Rdr w g v l k){n:Nat}(b:n<=l.length):Rdr (w.setCell ⟨g,1,none⟩ (.int .i64 n)) g v l n :=
 ⟨block_setCell h.blk _,b,h.rd.same fun i a=>AF _ _ _ _ (h.off i a),h.off⟩
def Rdr.later(h:Rdr w g v l k)(b:Below B w w')(a:w.heap.size<=B):Rdr w' g v l k :=
 h.same (b.block _ (AE h.lt a)) fun i c=>b.block _ (AE (h.rd.block c) a)
def Rdr.setVar(h:Rdr w g v l k){p:Addr}(hp:p.block≠g)(b:∀i,i<l.length->(adr v i).block≠p.block)(u:Value):Rdr (w.setCell p u) g v l k :=
 h.same (AF _ _ _ _ (fun e=>hp e.symm)) fun i a=>AF _ _ _ _ (b i a)
def Rdr.alloc{w:World}{g:Nat}{v:Value}{l:Bs}{k:Nat}(h:Rdr w g v l k)(o:Obj):Rdr (w.alloc o) g v l k :=
 h.later ((Ac _ _).alloc l_ o) l_
def Reads(w:World)(g:Nat)(v:Value)(l:Bs)(val:Value)(k' x:Nat)(e:Ending)(w':World):Prop :=
 w.grownBy w' (some g)/\((x=0/\e=.returned val/\Rdr w' g v l k')\/(x≠0/\e=.panicked [{ v:=zaU g x,recovered:=false}]/\zj7 w' g v l k' x))
def Reads.ok(h:Reads w g v l val b x e w')(f:x=0):e=.returned val/\w.grownBy w' (some g)/\Rdr w' g v l b:=by
 rcases h with⟨c,⟨_,a,d⟩|⟨a,_⟩⟩
 .exact⟨a,c,d⟩
 exact absurd f a
def Reads.no(h:Reads w g v l val b x e w')(f:x≠0):e=.panicked [{ v:=zaU g x,recovered:=false}]/\w.grownBy w' (some g)/\zj7 w' g v l b x:=by
 rcases h with⟨c,⟨a,_⟩|⟨_,a,d⟩⟩
 .exact absurd a f
 exact⟨a,c,d⟩
def zb3(g:Nat)(v:Value)(l:Bs)(k:Nat)(w:World)(a:Rdr w g v l k) :Calls prog 243 #[.pointer (some ⟨g,0,none⟩)] w fun e w'=>e=.returned (.bool false)/\w=w':=by
 have b:=a.cell2;clear a;go_enter func243,ntmps243;go_wp2;go_ret;exact⟨rfl,rfl⟩
def zkI(g:Nat)(v:Value)(l:Bs)(k x:Nat)(w:World)(a:Rdr w g v l k) :Calls prog 257 #[.pointer (some ⟨g,0,none⟩),.int .i64 (x:Int)] w fun e w'=>e=.panicked [{ v:=zaU g x,recovered:=false}]/\w.grownBy w' (some g)/\zj7 w' g v l k x:=by
 have f:=a.cell1;have h:=a.cell3;have i:=a.cell4;have j:=a.free 3;have n:=a.free 4;have b:=h_ a;have c:w.grownBy ((w.setCell ⟨g,3,none⟩ (.int .i64 (x:Int))).setCell ⟨g,4,none⟩ (.int .i64 (k:Int))) (some g):=za0 (za0 (World.grownBy.refl _ _) _) _;have d:=h_ c;clear c;clear a;go_enter func257,ntmps257;go_wp2;exact⟨rfl,rfl,d.o,⟨block_setCell (block_setCell b.blk _) _,b.le⟩⟩
def below_grown(h:Lz w w')(r:Option Nat):w.grownBy w' r:=⟨h.os,h.tape,h.output,h.size,fun j a _=>h.block j a⟩
def _root_.Go.World.grownBy.trans_drew{r:Option Nat}(h:w.grownBy w' r):w.grownBy w'.drew r:=⟨h.os,h.tape,h.output,h.size,h.block⟩
def zdU(w:World)(r:Option Nat):w.grownBy w.drew r:=⟨rfl,rfl,rfl,l_,fun _ _ _=>rfl⟩
def Rdr.drew{w:World}{g:Nat}{v:Value}{l:Bs}{k:Nat}(h:Rdr w g v l k):Rdr w.drew g v l k:=⟨h.blk,h.le,h.rd.drew,h.off⟩
def zeB(g:Nat)(v:Value)(l:Bs)(k:Nat)(w:World)(a:Rdr w g v l k) :Calls prog 256 #[.pointer (some ⟨g,0,none⟩)] w fun e w'=>e=.returned (.int .i64 ((l.length-k:Nat):Int))/\Lz w w':=by
 have h:=a.cell0;have i:=a.cell1;have b:=a.rd.len;have f:=a.rd.small;have d:=a.le;have c:(l.length:Int)-k=((l.length-k:Nat):Int):=by omega
 go_enter func256,ntmps256;go_wp2_with fail;refine(zb3 _ _ _ _ _ a).mono ?_;rintro e j⟨rfl,rfl⟩;clear a;go_wp2;go_region;go_wp2;go_ret;exact⟨rfl,(Ac _ _).drew⟩
def zaD(p:Value)(w:World)(x:Int) :Calls prog 240 #[p,.bool true,.int .i64 x] w fun e w'=>e=.returned (.tuple #[])/\w=w':=by
 go_enter func240,ntmps240;go_wp2;go_end0;exact⟨rfl,rfl⟩
def zaC(g:Nat)(v:Value)(l:Bs)(k:Nat)(w:World)(a:Rdr w g v l k)(x:Nat)(f:x≠0) :Calls prog 240 #[.pointer (some ⟨g,0,none⟩),.bool false,.int .i64 (x:Int)] w fun e w'=>e=.panicked [{ v:=zaU g x,recovered:=false}]/\w.grownBy w' (some g)/\zj7 w' g v l k x:=by
 have d:((x:Int)!=0)=true:=by simp;omega
 go_enter func240,ntmps240;go_wp2_with fail;refine(zb3 _ _ _ _ _ a).mono ?_;rintro e h⟨rfl,rfl⟩;go_wp2_with fail;refine(zkI g v l k x _ a).mono ?_;rintro e i⟨rfl,c,b⟩;clear a;go_wp2;exact⟨rfl,rfl,c,b⟩
def zkK(g:Nat)(v:Value)(l:Bs)(k:Nat)(w:World)(c:Rdr w g v l k) :Calls prog 242 #[.pointer (some ⟨g,0,none⟩)] w (Reads w g v l (.int .u8 (if k<l.length then at8 l k else 0)) (if k<l.length then k+1 else k) (if k<l.length then 0 else 5)):=by
 have A:=c.rd.small;have z:=c.le;by_cases f:k<l.length
 .simp only[Ab f];have C:((((l.length-k:Nat):Int)==0)=false):=by simp;omega
  go_enter func242,ntmps242;go_wp2_with fail;refine(zb3 _ _ _ _ _ c).mono ?_;rintro e h⟨rfl,rfl⟩;go_wp2_with fail;refine(zeB _ _ _ _ _ c).mono ?_;rintro e h⟨rfl,b⟩;have a:=c.later b l_;have D:=a.cell1;have H:=a.free 1;have d:=a.set (n:=k+1) (by omega);have E:=d.cell0;have G:=d.cell1;have r:=d.rd.idx k f;have j:=d.rd.cells k f;have p:w.grownBy (h.setCell ⟨g,1,none⟩ (.int .i64 ((k+1:Nat):Int))) (some g):=za0 (below_grown b _) _;have t:=h_ d;have s:=h_ p;have y:(k:Int)+1-1=(k:Int):=by omega
  clear c a d p b;rw[show((k+1:Nat):Int)=(k:Int)+1 from by omega]at *;go_wp2;go_region;go_wp2;go_ret;exact⟨s.trans_drew,.inl ⟨rfl,rfl,t.drew⟩⟩
 simp only[Aa f];obtain rfl:k=l.length:=by omega
 have C:((((l.length-l.length:Nat):Int)==0)=true):=by simp
 go_enter func242,ntmps242;go_wp2_with fail;refine(zb3 _ _ _ _ _ c).mono ?_;rintro e h⟨rfl,rfl⟩;go_wp2_with fail;refine(zeB _ _ _ _ _ c).mono ?_;rintro e h⟨rfl,b⟩;have a:=c.later b l_;clear c;go_wp2_with fail;refine(zkI g v l _ 5 _ a).mono ?_;rintro e I⟨rfl,i,u⟩;clear a;go_wp2;exact⟨rfl,(below_grown b _).trans i,.inr ⟨by decide,rfl,u⟩⟩
def zc8(g:Nat)(v:Value)(l:Bs)(k:Nat)(w:World)(b:Rdr w g v l k)(most:Nat)(hm:most<18446744073709551616) :Calls prog 215 #[.pointer (some ⟨g,0,none⟩),.int .u64 (most:Int)] w (Reads w g v l (.int .u64 ((rdU l k most).1:Int)) (rdU l k most).2.1 (rdU l k most).2.2):=by
 have S:=b.rd.small;have E:=b.le;have a:=b.drew;have z:∀x:Ord.GW w.drew,x.val.cell? ⟨g,0,none⟩=some v:=fun x=>(a.later x.grew l_).cell0;have A:∀x:Ord.GW w.drew,x.val.cell? ⟨g,1,none⟩=some (.int .i64 k):=fun x=>(a.later x.grew l_).cell1;obtain⟨X,Q,i⟩:=b.rd.from k E;have D:=zaY (l.drop k);rcases hr:getU (l.drop k)with⟨x,n,t⟩
 rw[hr]at D;dsimp only at D;have y:=h_ hr;by_cases u:t=0
 .subst u;obtain⟨V,N,G,O⟩:=D rfl;simp only[Ay]at G;by_cases r:most<x
  .have c:rdU l k most=(0,k,3):=(by unfold rdU;rw[hr];dsimp only;rw[Aa (by simp),Ab r]);rw[c];dsimp only;have p:decide (x<=most)=false:=(by simp;omega);clear hr c;go_enter func215,ntmps215;go_wp2_with fail;refine(zb3 _ _ _ _ _ b).mono ?_;rintro e s⟨rfl,rfl⟩;go_wp2_with fail;refine AY Ord.way [(0,false),(1,false),(2,false),(3,false),(4,false),(5,false),(6,false),(7,false),(8,false),(9,true),(10,false),(11,false),(12,false),(13,false),(14,false),(15,false),(16,false)] (by kernel_rfl) rfl (by kernel_rfl) (by kernel_rfl) (fun _ _ _ d _ h=>by cases d<;>exact h) ?_;iterate 9 (refine Ak rfl rfl (by kernel_rfl) (fun K hK=>?_);go_big_quiet_op;refine hK _ ?_;clear hK K)
   refine Ax rfl (by kernel_rfl) (fun K hK=>?_);go_big_op;refine(zaZ _ _ _ (i _ (b.rd.drew))).mono ?_;rintro e s⟨rfl,rfl⟩;rw[y.o];refine hK _ _ (Ord.Grew.refl _) ?_;clear hK K;iterate 7 (refine Ak rfl rfl (by kernel_rfl) (fun K hK=>?_);go_big_quiet_op;refine hK _ ?_;clear hK K)
   refine Bk ?_;clear z A;go_wp2_with fail;refine(zaD _ _ _).mono ?_;rintro e H⟨rfl,rfl⟩;go_wp2_with fail;refine(zaC g v l k _ a 3 (by decide)).mono ?_;rintro e H⟨rfl,f,C⟩;clear b a;go_wp2;exact⟨rfl,(zdU _ _).trans f,.inr ⟨by decide,rfl,C⟩⟩
  have c:rdU l k most=(x,k+n,0):=by unfold rdU;rw[hr];dsimp only;rw[Aa (by simp),Aa r]
  rw[c];dsimp only;have p:decide (x<=most)=true:=by simp;omega
  clear hr c;have I:=a.set (n:=k+n) (by omega);have j:w.grownBy (w.drew.setCell ⟨g,1,none⟩ (.int .i64 ((k+n:Nat):Int))) (some g):=za0 (zdU _ _) _;have T:=a.cell1;have U:=a.free 1;have M:=h_ I;have L:=h_ j;clear I j;rw[show((k+n:Nat):Int)=(k:Int)+(n:Int)from by omega]at *;go_enter func215,ntmps215;go_wp2_with fail;refine(zb3 _ _ _ _ _ b).mono ?_;rintro e s⟨rfl,rfl⟩;go_wp2_with fail;refine AY Ord.way [(0,false),(1,false),(2,false),(3,false),(4,false),(5,false),(6,false),(7,false),(8,false),(9,true),(10,false),(11,false),(12,false),(13,false),(14,false),(15,false),(16,false)] (by kernel_rfl) rfl (by kernel_rfl) (by kernel_rfl) (fun _ _ _ d _ h=>by cases d<;>exact h) ?_;iterate 9 (refine Ak rfl rfl (by kernel_rfl) (fun K hK=>?_);go_big_quiet_op;refine hK _ ?_;clear hK K)
  refine Ax rfl (by kernel_rfl) (fun K hK=>?_);go_big_op;refine(zaZ _ _ _ (i _ (b.rd.drew))).mono ?_;rintro e s⟨rfl,rfl⟩;rw[y.o];refine hK _ _ (Ord.Grew.refl _) ?_;clear hK K;iterate 7 (refine Ak rfl rfl (by kernel_rfl) (fun K hK=>?_);go_big_quiet_op;refine hK _ ?_;clear hK K)
  refine Bk ?_;clear z A;iterate 2 (go_wp2_with fail;refine(zaD _ _ _).mono ?_;rintro e H⟨rfl,rfl⟩)
  clear b a;go_wp2;go_ret;exact⟨L.o,.inl ⟨rfl,rfl,M.o⟩⟩
 have c:rdU l k most=(0,k,t):=by unfold rdU;rw[hr];dsimp only;rw[Ab u]
 rw[c];dsimp only;have J:((t:Int)==0)=false:=by simp;omega
 clear hr c;go_enter func215,ntmps215;go_wp2_with fail;refine(zb3 _ _ _ _ _ b).mono ?_;rintro e s⟨rfl,rfl⟩;go_wp2_with fail;refine AY Ord.way [(0,false),(1,false),(2,false),(3,false),(4,false),(5,false),(6,false),(7,false),(8,false),(9,true),(10,false),(11,false),(12,false),(13,false),(14,false),(15,false),(16,false)] (by kernel_rfl) rfl (by kernel_rfl) (by kernel_rfl) (fun _ _ _ d _ h=>by cases d<;>exact h) ?_;iterate 9 (refine Ak rfl rfl (by kernel_rfl) (fun K hK=>?_);go_big_quiet_op;refine hK _ ?_;clear hK K)
 refine Ax rfl (by kernel_rfl) (fun K hK=>?_);go_big_op;refine(zaZ _ _ _ (i _ (b.rd.drew))).mono ?_;rintro e s⟨rfl,rfl⟩;rw[y.o];refine hK _ _ (Ord.Grew.refl _) ?_;clear hK K;iterate 7 (refine Ak rfl rfl (by kernel_rfl) (fun K hK=>?_);go_big_quiet_op;refine hK _ ?_;clear hK K)
 refine Bk ?_;clear z A;go_wp2_with fail;refine(zaC g v l k _ a t u).mono ?_;rintro e H⟨rfl,f,C⟩;clear b a;go_wp2;exact⟨rfl,(zdU _ _).trans f,.inr ⟨u,rfl,C⟩⟩
def zIJ:(rdU l k 18446744073709551615).1<2^64:=by
 unfold rdU;split
 ·simp
 split
 ·simp
 rename_i h _;exact(zaY _ (Av h)).1
def zn5(g:Nat)(v:Value)(l:Bs)(k:Nat)(w:World)(j:Rdr w g v l k) :Calls prog 246 #[.pointer (some ⟨g,0,none⟩)] w (Reads w g v l (.int .i64 (zag (rdU l k 18446744073709551615).1)) (rdU l k 18446744073709551615).2.1 (rdU l k 18446744073709551615).2.2):=by
 have d:=zIJ (l:=l) (k:=k);rcases hr:rdU l k 18446744073709551615 with⟨x,n,i⟩
 rw[hr]at d;dsimp only at d ⊢;have f:=h_ hr;clear hr;go_enter func246,ntmps246;go_wp2_with fail;refine(zc8 g v l k _ j 18446744073709551615 (by decide)).mono ?_;rw[f.o];dsimp only;rintro e p h;by_cases c:i=0
 .obtain⟨rfl,b,a⟩:=h.ok c;go_wp2_with fail;refine(zDK (x:Int) (by omega) (by omega) _).mono ?_;rintro e r⟨rfl,rfl⟩;go_wp2;go_ret;exact⟨b,.inl ⟨c,rfl,a⟩⟩
 obtain⟨rfl,b,a⟩:=h.no c;go_wp2;exact⟨rfl,b,.inr ⟨c,rfl,a⟩⟩
def zGG(w:World)(g:Nat)(v:Value)(l:Bs)(r:Bs×Nat×Nat)(e:Ending)(w':World):Prop :=
 ∃val,Reads w g v l val r.2.1 r.2.2 e w'/\(r.2.2=0->Own w' w.heap.size val r.1)
def ziH(g:Nat)(v:Value)(l:Bs)(k:Nat)(w:World)(i:Rdr w g v l k)(most:Int)(hm:-9223372036854775808<=most/\most<=9223372036854775807) :Calls prog 241 #[.pointer (some ⟨g,0,none⟩),.int .i64 most] w (zGG w g v l (rdB l k most)):=by
 have U:=i.rd.small;have C:=i.le;have f:=i.drew;have G:∀x:Ord.GW w.drew,x.val.cell? ⟨g,0,none⟩=some v:=fun x=>(f.later x.grew l_).cell0;have H:∀x:Ord.GW w.drew,x.val.cell? ⟨g,1,none⟩=some (.int .i64 k):=fun x=>(f.later x.grew l_).cell1;obtain⟨Z,T,t⟩:=i.rd.from k C;have z:=zl2 (l.drop k) most;rcases hr:getB (l.drop k) most with⟨x,n,y⟩
 rw[hr]at z;dsimp only at z;obtain⟨D,Q,_⟩:=z;simp only[Ay]at D;have E:=h_ hr;by_cases r:y=0
 .subst r;have p:rdB l k most=(x,k+n,0):=by unfold rdB;rw[hr];dsimp only;rw[Aa (by simp)]
  rw[p];clear hr p;go_enter func241,ntmps241;go_wp2_with fail;refine(zb3 _ _ _ _ _ i).mono ?_;rintro e u⟨rfl,rfl⟩;go_wp2_with fail;refine AY Ord.way [(0,false),(1,false),(2,false),(3,false),(4,false),(5,false),(6,false),(7,false),(8,false),(9,false),(10,true),(11,false),(12,false),(13,false),(14,false),(15,false),(16,false),(17,false)] (by kernel_rfl) rfl (by kernel_rfl) (by kernel_rfl) (fun _ _ _ d _ h=>by cases d<;>exact h) ?_;iterate 10 (refine Ak rfl rfl (by kernel_rfl) (fun K hK=>?_);go_big_quiet_op;refine hK _ ?_;clear hK K)
  refine Ax rfl (by kernel_rfl) (fun K hK=>?_);go_big_op;refine(zbI _ _ most hm.1 hm.2 _ (t _ (i.rd.drew))).mono ?_;rintro e u⟨J,rfl,c,b⟩;rw[E.o]at c ⊢;dsimp only at c ⊢;refine hK _ _ b ?_;clear hK K;iterate 7 (refine Ak rfl rfl (by kernel_rfl) (fun K hK=>?_);go_big_quiet_op;refine hK _ ?_;clear hK K)
  refine Bk ?_;clear G H;go_wp2_with fail;refine(zaD _ _ _).mono ?_;rintro e V⟨rfl,rfl⟩;have j:=f.later b l_;have I:=j.set (n:=k+n) (by omega);have s:w.grownBy (u.setCell ⟨g,1,none⟩ (.int .i64 ((k+n:Nat):Int))) (some g):=za0 ((zdU w _).trans (below_grown b _)) _;have O:Own (u.setCell ⟨g,1,none⟩ (.int .i64 ((k+n:Nat):Int))) w.heap.size J x:=ownsRow_setCell_below c (a:=⟨g,1,none⟩) i.lt _;have X:=j.cell1;have Y:=j.free 1;have M:=h_ I;have L:=h_ s;clear I s i f j c b;rw[show((k+n:Nat):Int)=(k:Int)+(n:Int)from by omega]at *;go_wp2;go_ret;exact⟨_,⟨L.o,.inl ⟨rfl,rfl,M.o⟩⟩,fun _=>O⟩
 have p:rdB l k most=([],k,y):=by unfold rdB;rw[hr];dsimp only;rw[Ab r]
 rw[p];have S:((y:Int)==0)=false:=by simp;omega
 clear hr p;go_enter func241,ntmps241;go_wp2_with fail;refine(zb3 _ _ _ _ _ i).mono ?_;rintro e u⟨rfl,rfl⟩;go_wp2_with fail;refine AY Ord.way [(0,false),(1,false),(2,false),(3,false),(4,false),(5,false),(6,false),(7,false),(8,false),(9,false),(10,true),(11,false),(12,false),(13,false),(14,false),(15,false),(16,false),(17,false)] (by kernel_rfl) rfl (by kernel_rfl) (by kernel_rfl) (fun _ _ _ d _ h=>by cases d<;>exact h) ?_;iterate 10 (refine Ak rfl rfl (by kernel_rfl) (fun K hK=>?_);go_big_quiet_op;refine hK _ ?_;clear hK K)
 refine Ax rfl (by kernel_rfl) (fun K hK=>?_);go_big_op;refine(zbI _ _ most hm.1 hm.2 _ (t _ (i.rd.drew))).mono ?_;rintro e u⟨J,rfl,c,b⟩;rw[E.o]at c ⊢;dsimp only at c ⊢;refine hK _ _ b ?_;clear hK K;iterate 7 (refine Ak rfl rfl (by kernel_rfl) (fun K hK=>?_);go_big_quiet_op;refine hK _ ?_;clear hK K)
 refine Bk ?_;clear G H;go_wp2_with fail;refine(zaC g v l k _ (f.later b l_) y r).mono ?_;rintro e V⟨rfl,A,N⟩;clear i f;go_wp2;exact⟨rfl,.slice none 0 0,⟨((zdU w _).trans (below_grown b _)).trans A,.inr ⟨r,rfl,N⟩⟩,fun h=>absurd h r⟩
/- -/
def zu9:(prog.info? 321).isSome=true:=by kernel_rfl
def zE7(a:Addr)(u:World):(binOp .neq 299 (.pointer (some a)) (.pointer (some a))).run prog u=.ok (.bool false) u:=by
 obtain⟨j,b⟩:=Option.isSome_iff_exists.1 zu9;exact Lib.run_neq_ptr_same u a underlying299 b
def zmF(g:Nat)(v:Value)(l:Bs)(k:Nat)(w:World)(a:Rdr w g v l k)(y:Nat)(c:(if k<l.length then 7 else 0)=y) :Calls prog 239 #[.pointer (some ⟨g,0,none⟩)] w fun e w'=>e=.returned (.tuple #[.int .i64 (k:Int),.int .i64 (y:Int)])/\Lz w w':=by
 have f:=a.cell3;have j:=a.le;by_cases h:k<l.length
 .have d:((l.length-k:Nat):Int)>0:=by omega
  rw[Ab h]at c;subst c;go_enter func239,ntmps239;go_wp2_with fail;refine(zeB _ _ _ _ _ a).mono ?_;rintro e n⟨rfl,b⟩;have i:=(a.later b l_).cell1;clear a f;go_wp2;go_ret2;exact⟨rfl,b⟩
 have d:¬((l.length-k:Nat):Int)>0:=by omega
 rw[Aa h]at c;subst c;go_enter func239,ntmps239;go_wp2_with fail;refine(zeB _ _ _ _ _ a).mono ?_;rintro e n⟨rfl,b⟩;have i:=(a.later b l_).cell1;clear a f;go_wp2;go_ret2;exact⟨rfl,b⟩
def zpF(g:Nat)(v:Value)(l:Bs)(k x:Nat)(w:World)(f:x≠0)(a:zj7 w g v l k x) :Calls prog 239 #[.pointer (some ⟨g,0,none⟩)] w fun e w'=>e=.returned (.tuple #[.int .i64 (k:Int),.int .i64 (x:Int)])/\Lz w w':=by
 have c:w.cell? ⟨g,3,none⟩=some (.int .i64 x):=by rw[Ag _ _ _ _ _ _ a.blk];rfl
 have d:w.cell? ⟨g,4,none⟩=some (.int .i64 k):=by rw[Ag _ _ _ _ _ _ a.blk];rfl
 have b:((x:Int)!=0)=true:=by simp;omega
 clear a;go_enter func239,ntmps239;go_wp2;go_region;go_wp2;go_ret2;exact⟨rfl,(Ac _ _).drew⟩
def Told(B k y:Nat)(w w':World):Prop :=
 w'.heap[B]?=some (.cells #[.int .i64 (k:Int)] 3 (0,0))/\w'.heap[B+1]?=some (.cells #[.int .i64 (y:Int)] 27 (0,0))/\Shut w' (B+2)/\Only (fun j=>B<=j/\j<B+4) w w'
def Told.later {y:Nat} {f g:World}(h:Told B k y w f)(e:Lz f g)(r:B+2<f.heap.size):Told B k y w g:=by
 obtain⟨i,j,⟨a,b,c,d,n⟩,p⟩:=h;exact⟨(e.block _ (by omega)).trans i,(e.block _ (by omega)).trans j,⟨a,b,c,d,(e.block _ r).trans n⟩,p.below e l_⟩
/-- Run's deferred closure in a frame that returns. -/
def zDV(B:Nat)(v:Value)(l:Bs)(k y:Nat)(hy:(if k<l.length then 7 else 0)=y)(w:World)(H:w.heap[B+3]? = some (.cells #[.pointer (some ⟨B+2,0,none⟩)] 299 (0,0)))(Y:w.heap[B]? = some (.cells #[.int .i64 0] 3 (0,0)))(X:w.heap[B+1]? = some (.cells #[.int .i64 0] 27 (0,0)))(M:Rdr w (B+2) v l k) :CallsD prog 238 #[.pointer (some ⟨B+3,0,none⟩), .pointer (some ⟨B,0,none⟩), .pointer (some ⟨B+1,0,none⟩)] .returning w fun r u' w'=>r=.returned (.tuple #[])/\u'=.returning/\Told B k y w w':=by
 have N:=cell_of_one H;have ap:B+3<w.heap.size:=(Aj.1 H).1;refine callsD_of_wpS func238 rfl fun c₀ cs hu=>?_;simp only[ntmps238,Br,Ap,Bh,Nat.reduceAdd,Nat.reduceSub,BU,
    BV,Cc,B7,AA,AQ]
 apply wpS_seq;apply wpS_of_wp;go_wp2_with fail;refine(zmF _ _ _ _ _ M y hy).mono ?_;rintro e t⟨rfl,c⟩;have n:=(c.block _ (by omega)).trans H;have h:=(c.block _ (by omega)).trans Y;have g:=(c.block _ (by omega)).trans X;have D:=(c.block _ (by omega)).trans M.blk;have E:Only (fun j=>B<=j/\j<B+4) w t:=(Only.refl _ _).below c (AK _);clear H Y X M c N;have n0:=cell_of_one h;have n1:=free_of_one h;have e0:=cell_of_one g;have e1:=free_of_one g;have I:=cell_of_one n;have s:=Ai n;have C:=Ai h;have A:=Ai g;have z:=Ai D;have u:=Ai E;clear n h g D E;go_wp2;simp only[Exit.thenS];obtain⟨a,d⟩:=nm_ ((t.setCell ⟨B,0,none⟩ (.int .i64 (k:Int))).setCell ⟨B+1,0,none⟩ (.int .i64 (y:Int)));have Z:a.heap[B]?=some (.cells #[.int .i64 (k:Int)] 3 (0,0)):=by rw[d];exact(AF _ ⟨B+1,0,none⟩ _ _ (by simp)).trans (one_setCell C.o)
 have T:a.heap[B+1]?=some (.cells #[.int .i64 (y:Int)] 27 (0,0)):=by rw[d];exact one_setCell ((AF _ ⟨B,0,none⟩ _ _ (by simp)).trans A.o)
 have J:=(AF (t.setCell ⟨B,0,none⟩ (.int .i64 (k:Int))) ⟨B+1,0,none⟩ (.int .i64 (y:Int)) (B+3) (by simp)).trans ((AF t ⟨B,0,none⟩ (.int .i64 (k:Int)) (B+3) (by simp)).trans s.o);have b:=(AF (t.setCell ⟨B,0,none⟩ (.int .i64 (k:Int))) ⟨B+1,0,none⟩ (.int .i64 (y:Int)) (B+2) (by simp)).trans ((AF t ⟨B,0,none⟩ (.int .i64 (k:Int)) (B+2) (by simp)).trans z.o);have Q:Only (fun j=>B<=j/\j<B+4) w a:=by rw[d];exact(u.setCell (p:=⟨B,0,none⟩) (by dsimp only;omega) _).setCell (p:=⟨B+1,0,none⟩) (by dsimp only;omega) _
 rw[<-d]at J b ⊢;clear d n0 n1 e0 e1 I s C A z u;have I:=cell_of_one J;have c0:a.cell? ⟨B+2,0,none⟩=some v:=by rw[Ag _ _ _ _ _ _ b];rfl
 have c1:a.cell? ⟨B+2,1,none⟩=some (.int .i64 k):=by rw[Ag _ _ _ _ _ _ b];rfl
 have c2:a.cell? ⟨B+2,2,none⟩=some (.bool true):=by rw[Ag _ _ _ _ _ _ b];rfl
 have c3:a.cell? ⟨B+2,3,none⟩=some (.int .i64 0):=by rw[Ag _ _ _ _ _ _ b];rfl
 have c4:a.cell? ⟨B+2,4,none⟩=some (.int .i64 0):=by rw[Ag _ _ _ _ _ _ b];rfl
 have f0:a.frozen? ⟨B+2,0,none⟩=false:=At _ _ _ _ _ b;have f1:a.frozen? ⟨B+2,1,none⟩=false:=At _ _ _ _ _ b;have f2:a.frozen? ⟨B+2,2,none⟩=false:=At _ _ _ _ _ b;have f3:a.frozen? ⟨B+2,3,none⟩=false:=At _ _ _ _ _ b;have f4:a.frozen? ⟨B+2,4,none⟩=false:=At _ _ _ _ _ b;have s:=Ai J;have C:=Ai Z;have A:=Ai T;have z:=Ai b;have u:=Ai Q;clear J Z T b Q;apply wpS_seq;apply wpS_of_wp;go_wp2;simp only[Exit.thenS];obtain⟨L,f⟩:=nm_ (((((a.setCell ⟨B+2,0,none⟩ (.slice none 0 0)).setCell ⟨B+2,1,none⟩ (.int .i64 0)).setCell ⟨B+2,2,none⟩ (.bool false)).setCell ⟨B+2,3,none⟩ (.int .i64 0)).setCell ⟨B+2,4,none⟩ (.int .i64 0));rw[<-f];have old:∀j,j≠B+2->L.heap[j]?=a.heap[j]?:=fun j G=>by
  rw[f,AF _ _ _ _ G,AF _ _ _ _ G,AF _ _ _ _ G,AF _ _ _ _ G,AF _ _ _ _ G]
 have S:L.heap[B+2]?=some (.cells #[.slice none 0 0,.int .i64 0,.bool false,.int .i64 0,.int .i64 0] 321 (0,0)):=by
  rw[f];exact block_setCell (block_setCell (block_setCell (block_setCell (block_setCell z.o _) _) _) _) _
 have i:Only (fun j=>B<=j/\j<B+4) w L:=by
  rw[f];exact((((u.setCell (p:=⟨B+2,0,none⟩) (by dsimp only;omega) _).setCell (p:=⟨B+2,1,none⟩) (by dsimp only;omega) _).setCell (p:=⟨B+2,2,none⟩) (by dsimp only;omega) _).setCell (p:=⟨B+2,3,none⟩) (by dsimp only;omega) _).setCell (p:=⟨B+2,4,none⟩) (by dsimp only;omega) _
 have O:=(old (B+3) (by omega)).trans s.o;have n3:=(old B (by omega)).trans C.o;have U:=(old (B+1) (by omega)).trans A.o;have V:Told B k y w L:=⟨n3,U,⟨_,_,_,_,S⟩,i⟩;clear f old S i n3 U s C A z u I c0 c1 c2 c3 c4 f0 f1 f2 f3 f4;have I:=cell_of_one O;have s:=Ai O;have HT:=Ai V;clear O V;apply wpS_seq;apply wpS_region;simp[wpOpsS,go_sem,recoverD,hu,Exit.thenS];apply wpS_of_wp;go_wp2;exact⟨rfl,_,by cases c₀;simp_all,_,results_none rfl _ _ _,rfl,rfl,HT.o⟩
/-- .. in a frame that panics with the reader's own end. -/
def zA2(B:Nat)(v:Value)(l:Bs)(k y:Nat)(hx:y≠0)(w:World)(N:w.heap[B+3]? = some (.cells #[.pointer (some ⟨B+2,0,none⟩)] 299 (0,0)))(hn:w.heap[B]? = some (.cells #[.int .i64 0] 3 (0,0)))(he:w.heap[B+1]? = some (.cells #[.int .i64 0] 27 (0,0)))(S:zj7 w (B+2) v l k y) :CallsD prog 238 #[.pointer (some ⟨B+3,0,none⟩), .pointer (some ⟨B,0,none⟩), .pointer (some ⟨B+1,0,none⟩)] (.panicking [{ v:=zaU (B+2) y,recovered:=false}]) w fun r u' w'=>r=.returned (.tuple #[])/\u'=.panicking [{ v:=zaU (B+2) y,recovered:=true}]/\Told B k y w w':=by
 have aw:=zE7 ⟨B+2,0,none⟩;have ax:∀(u:World),(Instr.typeAssert (.iface 324 (.agg #[.pointer (some ⟨B+2,0,none⟩)])) 20 324 true).run prog u=.ok (.tuple #[.agg #[.pointer (some ⟨B+2,0,none⟩)],.bool true]) u:=fun u=>by kernel_rfl
 have au:∀(u:World),(binOp .eql 20 (.iface 324 (.agg #[.pointer (some ⟨B+2,0,none⟩)])) .nilIface).run prog u=.ok (.bool false) u:=fun u=>rfl;have T:=cell_of_one N;have av:B+3<w.heap.size:=(Aj.1 N).1;refine callsD_of_wpS func238 rfl fun c₀ cs hu=>?_;simp only[ntmps238,Br,Ap,Bh,Nat.reduceAdd,Nat.reduceSub,BU,
    BV,Cc,B7,AA,AQ]
 apply wpS_seq;apply wpS_of_wp;go_wp2_with fail;refine(zpF _ _ _ _ _ _ hx S).mono ?_;rintro e C⟨rfl,d⟩;have z:=(d.block _ (by omega)).trans N;have n:=(d.block _ (by omega)).trans hn;have i:=(d.block _ (by omega)).trans he;have I:=(d.block _ (by omega)).trans S.blk;have J:Only (fun j=>B<=j/\j<B+4) w C:=(Only.refl _ _).below d (AK _);clear N hn he S d T;have n0:=cell_of_one n;have n1:=free_of_one n;have e0:=cell_of_one i;have e1:=free_of_one i;have A:=cell_of_one z;have t:=Ai z;have H:=Ai n;have G:=Ai i;have E:=Ai I;have D:=Ai J;clear z n i I J;go_wp2;simp only[Exit.thenS];obtain⟨b,f⟩:=nm_ ((C.setCell ⟨B,0,none⟩ (.int .i64 (k:Int))).setCell ⟨B+1,0,none⟩ (.int .i64 (y:Int)));have n2:b.heap[B]?=some (.cells #[.int .i64 (k:Int)] 3 (0,0)):=by rw[f];exact(AF _ ⟨B+1,0,none⟩ _ _ (by simp)).trans (one_setCell H.o)
 have Y:b.heap[B+1]?=some (.cells #[.int .i64 (y:Int)] 27 (0,0)):=by rw[f];exact one_setCell ((AF _ ⟨B,0,none⟩ _ _ (by simp)).trans G.o)
 have O:=(AF (C.setCell ⟨B,0,none⟩ (.int .i64 (k:Int))) ⟨B+1,0,none⟩ (.int .i64 (y:Int)) (B+3) (by simp)).trans ((AF C ⟨B,0,none⟩ (.int .i64 (k:Int)) (B+3) (by simp)).trans t.o);have c:=(AF (C.setCell ⟨B,0,none⟩ (.int .i64 (k:Int))) ⟨B+1,0,none⟩ (.int .i64 (y:Int)) (B+2) (by simp)).trans ((AF C ⟨B,0,none⟩ (.int .i64 (k:Int)) (B+2) (by simp)).trans E.o);have V:Only (fun j=>B<=j/\j<B+4) w b:=by rw[f];exact(D.setCell (p:=⟨B,0,none⟩) (by dsimp only;omega) _).setCell (p:=⟨B+1,0,none⟩) (by dsimp only;omega) _
 rw[<-f]at O c ⊢;clear f n0 n1 e0 e1 A t H G E D;have A:=cell_of_one O;have c0:b.cell? ⟨B+2,0,none⟩=some v:=by rw[Ag _ _ _ _ _ _ c];rfl
 have c1:b.cell? ⟨B+2,1,none⟩=some (.int .i64 k):=by rw[Ag _ _ _ _ _ _ c];rfl
 have c2:b.cell? ⟨B+2,2,none⟩=some (.bool true):=by rw[Ag _ _ _ _ _ _ c];rfl
 have c3:b.cell? ⟨B+2,3,none⟩=some (.int .i64 y):=by rw[Ag _ _ _ _ _ _ c];rfl
 have c4:b.cell? ⟨B+2,4,none⟩=some (.int .i64 k):=by rw[Ag _ _ _ _ _ _ c];rfl
 have f0:b.frozen? ⟨B+2,0,none⟩=false:=At _ _ _ _ _ c;have f1:b.frozen? ⟨B+2,1,none⟩=false:=At _ _ _ _ _ c;have f2:b.frozen? ⟨B+2,2,none⟩=false:=At _ _ _ _ _ c;have f3:b.frozen? ⟨B+2,3,none⟩=false:=At _ _ _ _ _ c;have f4:b.frozen? ⟨B+2,4,none⟩=false:=At _ _ _ _ _ c;have t:=Ai O;have H:=Ai n2;have G:=Ai Y;have E:=Ai c;have D:=Ai V;clear O n2 Y c V;apply wpS_seq;apply wpS_of_wp;go_wp2;simp only[Exit.thenS];obtain⟨h,g⟩:=nm_ (((((b.setCell ⟨B+2,0,none⟩ (.slice none 0 0)).setCell ⟨B+2,1,none⟩ (.int .i64 0)).setCell ⟨B+2,2,none⟩ (.bool false)).setCell ⟨B+2,3,none⟩ (.int .i64 0)).setCell ⟨B+2,4,none⟩ (.int .i64 0));rw[<-g];have old:∀j,j≠B+2->h.heap[j]?=b.heap[j]?:=fun j L=>by
  rw[g,AF _ _ _ _ L,AF _ _ _ _ L,AF _ _ _ _ L,AF _ _ _ _ L,AF _ _ _ _ L]
 have X:h.heap[B+2]?=some (.cells #[.slice none 0 0,.int .i64 0,.bool false,.int .i64 0,.int .i64 0] 321 (0,0)):=by
  rw[g];exact block_setCell (block_setCell (block_setCell (block_setCell (block_setCell E.o _) _) _) _) _
 have s:Only (fun j=>B<=j/\j<B+4) w h:=by
  rw[g];exact((((D.setCell (p:=⟨B+2,0,none⟩) (by dsimp only;omega) _).setCell (p:=⟨B+2,1,none⟩) (by dsimp only;omega) _).setCell (p:=⟨B+2,2,none⟩) (by dsimp only;omega) _).setCell (p:=⟨B+2,3,none⟩) (by dsimp only;omega) _).setCell (p:=⟨B+2,4,none⟩) (by dsimp only;omega) _
 have U:=(old (B+3) (by omega)).trans t.o;have n3:=(old B (by omega)).trans H.o;have Z:=(old (B+1) (by omega)).trans G.o;have hT:Told B k y w h:=⟨n3,Z,⟨_,_,_,_,X⟩,s⟩;clear g old X s n3 Z t H G E D A c0 c1 c2 c3 c4 f0 f1 f2 f3 f4;have A:=cell_of_one U;have t:=Ai U;have HT:=Ai hT;clear U hT;apply wpS_seq;apply wpS_region;simp[wpOpsS,go_sem,recoverD,hu,Exit.thenS];apply wpS_of_wp;simp only[zaU];have M:B+3<h.heap.size:=(Aj.1 t.o).1;have r4:∀o,(h.alloc o).cell? ⟨B+3,0,none⟩=some (.pointer (some ⟨B+2,0,none⟩)):=fun o=>(Bi (w:=h) (w':=h.alloc o) (a:=⟨B+3,0,none⟩) (AS _ _ _ M)).trans A;have Q:∀o,Told B k y w (h.alloc o):=fun o=>HT.later ((Ac _ h).alloc (AK _) o) (by omega);clear A;go_wp2;exact⟨rfl,_,rfl,_,results_none rfl _ _ _,rfl,rfl,Q _⟩
def zlG{f:FuncId}{b:Func}{c:Code}(g:prog.funcs[f]? = some b)(a:(b.name == "runtime.NumGoroutine")=false)(e:b.body=some c)(args:Array Value)(u:World):(callFunc f args).run prog u=.ok (.enter f args) u:=by
 have d:b.name ≠ "runtime.NumGoroutine" :=by simpa using a
 simp[callFunc,g,d,e,mark]
def Went(g:Nat)(v:Value)(l:Bs)(k x:Nat)(e:Ending)(w:World):Prop :=
 (x=0/\e=.returned (.tuple #[])/\Rdr w g v l k)\/(x≠0/\e=.panicked [{ v:=zaU g x,recovered:=false}]/\zj7 w g v l k x)
def told(l:Bs)(k x:Nat):Nat:=if x=0 then(if k<l.length then 7 else 0)else x
def zkJ(n:Nat)(hn:∀(args:Array Value)(u:World),(callFunc n args).run prog u=.ok (.enter n args) u)(cap:Array Value)(v:Value)(l:Bs)(w:World)(h:Rd w v l)(p:Nat->Nat->Nat->World->Prop)(hP:∀g k x a b,p g k x a->w.heap.size+4<=a.heap.size->Only (fun j=>w.heap.size<=j/\j<w.heap.size+4) a b->p g k x b)(hf:∀g r,w.heap.size<=g->w.heap.size+4<=r.heap.size->g<w.heap.size+4->Lz w r->Rdr r g v l 0 ->Calls prog n (#[.pointer (some ⟨g,0,none⟩)]++cap) r fun e O=>∃k x,Kept w.heap.size g r O/\p g k x O/\Went g v l k x e O) :Calls prog 210 #[v,.func (.func n) #[] cap] w fun e w'=>∃g k x,k<=l.length/\w.heap.size<=g/\p g k x w'/\Shut w' g /\e=.returned (.tuple #[.int .i64 (k:Int),.int .i64 (told l k x:Int)]):=by
 have ai:∀(fn:Fn)(first cap:Array Value)(w:World),(Instr.makeFunc fn first cap).run prog w=.ok (.func fn first cap) w:=fun _ _ _ _=>rfl;have aj:∀u,(binOp .eql 301 (.func (.func n) #[] cap) .nilFunc).run prog u=.ok (.bool false) u:=fun u=>rfl;have Z:=h_ hP;have HF:=h_ hf;clear hP hf;obtain⟨D,c,hv,_⟩:=id h.shape;subst hv;go_enter_defers func210,ntmps210;go_wp2_with fail;have s:(((w.alloc (.cells #[.int .i64 0] 3)).alloc (.cells #[.int .i64 0] 27)).alloc (.cells #[.slice D l.length c,.int .i64 0,.bool true,.int .i64 0,.int .i64 0] 321)).heap.size=w.heap.size+3:=by simp
 obtain⟨r,d⟩:=nm_ ((((w.alloc (.cells #[.int .i64 0] 3)).alloc (.cells #[.int .i64 0] 27)).alloc (.cells #[.slice D l.length c,.int .i64 0,.bool true,.int .i64 0,.int .i64 0] 321)).alloc (.cells #[.pointer (some ⟨w.heap.size+1+1,0,none⟩)] 299));rw[<-d];have ak:r.heap.size=w.heap.size+4:=by rw[d];simp
 have t:Lz w r:=by
  rw[d];exact((((Ac _ w).alloc l_ _).alloc (by simp) _).alloc (by simp[BD]) _).alloc (by simp[BD]) _
 have E:r.heap[w.heap.size]?=some (.cells #[.int .i64 0] 3 (0,0)):=by
  rw[d,AS _ _ _ (by simp[BD]),AS _ _ _ (by simp[BD]),AS _ _ _ (by simp)];exact AB _ _
 have G:r.heap[w.heap.size+1]?=some (.cells #[.int .i64 0] 27 (0,0)):=by
  rw[d,AS _ _ _ (by simp[BD]),AS _ _ _ (by simp)];have:=AB (w.alloc (.cells #[.int .i64 0] 3)) (.cells #[.int .i64 0] 27 (0,0));simpa using this
 have H:r.heap[w.heap.size+2]?=some (.cells #[.slice D l.length c,.int .i64 0,.bool true,.int .i64 0,.int .i64 0] 321 (0,0)):=by
  rw[d,AS _ _ _ (by simp)];have:=AB ((w.alloc (.cells #[.int .i64 0] 3)).alloc (.cells #[.int .i64 0] 27 (0,0))) (.cells #[.slice D l.length c,.int .i64 0,.bool true,.int .i64 0,.int .i64 0] 321 (0,0));simpa using this
 have I:r.heap[w.heap.size+3]?=some (.cells #[.pointer (some ⟨w.heap.size+2,0,none⟩)] 299 (0,0)):=by
  rw[d,<-s];exact AB _ _
 have J:Rdr r (w.heap.size+2) (.slice D l.length c) l 0:=⟨H,Bg _,h.later t l_,fun i hi=>by have:=h.block hi;omega⟩;clear d s;rw[show w.heap.size+1+1+1=w.heap.size+3 from rfl,show w.heap.size+1+1=w.heap.size+2 from rfl];refine(HF.o (w.heap.size+2) r (by omega) (by omega) (by omega) t J).mono ?_;rintro e O⟨k,x,M,hp,C⟩;have N:=(M.block w.heap.size (by omega) (by omega) (by omega)).trans E;have L:=(M.block (w.heap.size+1) (by omega) (by omega) (by omega)).trans G;have A:=(M.block (w.heap.size+3) (by omega) (by omega) (by omega)).trans I;have al:=M.size;clear E G H I M J t;rcases C with⟨rfl,rfl,J⟩|⟨hx,rfl,hE⟩
 .have c0:=cell_of_one A;have Y:=J.le;dsimp only;go_wp2;refine leaves_cons (f:=238) (args:=#[.pointer (some ⟨w.heap.size+3,0,none⟩),.pointer (some ⟨w.heap.size,0,none⟩),.pointer (some ⟨w.heap.size+1,0,none⟩)]) (by simp) (by simp[go_sem]) ?_;obtain⟨y,hy⟩:∃y:Nat,(if k<l.length then 7 else 0)=y:=⟨_,rfl⟩;refine(zDV w.heap.size _ l k y hy _ A N L J).mono ?_;rintro e u w4⟨rfl,rfl,T,U,V,X⟩;have Q:=cell_of_one T;have S:=cell_of_one U;have z:=Z.o _ _ _ _ _ hp (by omega) X;simp[Leaves,settle,results,results210,go_sem,Q,S];exact⟨_,k,Y,by omega,0,z,V,rfl,by simp[told,hy]⟩
 go_wp2;refine leaves_cons (f:=238) (args:=#[.pointer (some ⟨w.heap.size+3,0,none⟩),.pointer (some ⟨w.heap.size,0,none⟩),.pointer (some ⟨w.heap.size+1,0,none⟩)]) (by simp) (by simp[go_sem]) ?_;refine(zA2 w.heap.size _ l k x hx O A N L hE).mono ?_;rintro e u w3⟨rfl,rfl,T,U,V,X⟩;have Q:=cell_of_one T;have S:=cell_of_one U;have z:=Z.o _ _ _ _ _ hp (by omega) X;simp[Leaves,settle,results,results210,go_sem,Q,S];exact⟨_,k,hE.le,by omega,x,z,V,rfl,by simp[told,hx]⟩
/- -/
structure Mdl(w:World)(m:Nat)(v:Value)(l:Bs)(k x:Nat):Prop where
 blk:w.heap[m]?=some (.cells #[v,.int .i64 (k:Int),.int .i64 (x:Int)] 218 (0,0))
 le:k<=l.length
 rd:Rd w v l
 off:∀i,i<l.length->(adr v i).block≠m
section
variable{w w':World}{m:Nat}{v:Value}{l:Bs}{k x:Nat}
def Mdl.lt(h:Mdl w m v l k x):m<w.heap.size:=(Aj.1 h.blk).1
def Mdl.cell0(h:Mdl w m v l k x):w.cell? ⟨m,0,none⟩=some v:=by rw[Ag _ _ _ _ _ _ h.blk];rfl
def Mdl.cell1(h:Mdl w m v l k x):w.cell? ⟨m,1,none⟩=some (.int .i64 k):=by rw[Ag _ _ _ _ _ _ h.blk];rfl
def Mdl.cell2(h:Mdl w m v l k x):w.cell? ⟨m,2,none⟩=some (.int .i64 x):=by rw[Ag _ _ _ _ _ _ h.blk];rfl
def Mdl.free(h:Mdl w m v l k x)(i:Nat):w.frozen? ⟨m,i,none⟩=false:=At _ _ _ _ _ h.blk
def Mdl.same(h:Mdl w m v l k x)(a:w'.heap[m]?=w.heap[m]?)(b:∀i,i<l.length->w'.heap[(adr v i).block]?=w.heap[(adr v i).block]?):Mdl w' m v l k x :=
 ⟨a.trans h.blk,h.le,h.rd.same b,h.off⟩
def Mdl.setAt(h:Mdl w m v l k x){n:Nat}(b:n<=l.length):Mdl (w.setCell ⟨m,1,none⟩ (.int .i64 n)) m v l n x :=
 ⟨block_setCell h.blk _,b,h.rd.same fun i a=>AF _ _ _ _ (h.off i a),h.off⟩
def Mdl.setErr(h:Mdl w m v l k x)(y:Nat):Mdl (w.setCell ⟨m,2,none⟩ (.int .i64 y)) m v l k y :=
 ⟨block_setCell h.blk _,h.le,h.rd.same fun i a=>AF _ _ _ _ (h.off i a),h.off⟩
def Mdl.later{B:Nat}(h:Mdl w m v l k x)(b:Below B w w')(a:w.heap.size<=B):Mdl w' m v l k x :=
 h.same (b.block _ (AE h.lt a)) fun i c=>b.block _ (AE (h.rd.block c) a)
def Mdl.drew(h:Mdl w m v l k x):Mdl w.drew m v l k x:=⟨h.blk,h.le,h.rd.drew,h.off⟩
def Mdl.only{S:Nat->Prop}(h:Mdl w m v l k x)(a:Only S w w')(hm:¬S m)(c:∀i,i<l.length->¬S (adr v i).block):Mdl w' m v l k x :=
 h.same (a.block _ h.lt hm) fun i b=>a.block _ (h.rd.block b) (c i b)
end
def Does(w:World)(m:Nat)(v:Value)(l:Bs)(val:Value)(k' x':Nat)(e:Ending)(w':World):Prop:=e=.returned val/\w.grownBy w' (some m)/\Mdl w' m v l k' x'
def zcA(m:Nat)(v:Value)(l:Bs)(k x:Nat)(w:World)(a:Mdl w m v l k x) :Calls prog 180 #[.pointer (some ⟨m,0,none⟩)] w fun e w'=>∃u,e=.returned u/\Lz w w'/\∀c,Rd c v l->Rd c u (l.drop k):=by
 have f:=a.cell0;have g:=a.cell1;obtain⟨h,d,b⟩:=a.rd.from k a.le;clear a;go_enter func180,ntmps180;go_wp2;go_region;go_wp2;go_ret;exact⟨_,rfl,(Ac _ _).drew,b⟩
def zxW(m:Nat)(v:Value)(l:Bs)(k:Nat)(w:World)(c:Mdl w m v l k 0) :Calls prog 179 #[.pointer (some ⟨m,0,none⟩)] w (Does w m v l (.int .u8 (if k<l.length then at8 l k else 0)) (if k<l.length then k+1 else k) (if k<l.length then 0 else 5)):=by
 have z:=c.rd.small;have y:=c.le;have H:=c.cell2;by_cases h:k<l.length
 .simp only[Ab h];go_enter func179,ntmps179;go_wp2_with fail;refine(zcA _ _ _ _ _ _ c).mono ?_;rintro e p⟨u,rfl,b,g⟩;have a:=c.later b l_;have j:=(g _ a.rd).len;have A:((((l.drop k).length:Nat):Int)==0)=false:=by simp;omega
  have C:=a.cell1;have I:=a.free 1;have d:=a.setAt (n:=k+1) (by omega);have E:=d.cell0;have G:=d.cell1;have t:=d.rd.idx k h;have r:=d.rd.cells k h;have s:w.grownBy (p.setCell ⟨m,1,none⟩ (.int .i64 ((k+1:Nat):Int))) (some m):=za0 (below_grown b _) _;have i:=h_ d;have f:=h_ s;clear c a d s g b;rw[show((k+1:Nat):Int)=(k:Int)+1 from by omega]at *;generalize (l.drop k).length=q at *;go_wp2;go_region;go_wp2;go_ret;exact⟨rfl,f.trans_drew,i.drew⟩
 simp only[Aa h];obtain rfl:k=l.length:=by omega
 go_enter func179,ntmps179;go_wp2_with fail;refine(zcA _ _ _ _ _ _ c).mono ?_;rintro e p⟨u,rfl,b,g⟩;have a:=c.later b l_;have j:=(g _ a.rd).len;have A:((((l.drop l.length).length:Nat):Int)==0)=true:=by simp
 have D:=a.cell2;have J:=a.free 2;have i:=h_ (a.setErr 5);have f:w.grownBy (p.setCell ⟨m,2,none⟩ (.int .i64 ((5:Nat):Int))) (some m):=za0 (below_grown b _) _;have f:=h_ f;clear c a g b;generalize (l.drop l.length).length=q at *;go_wp2;go_ret;exact⟨rfl,f.o,i.o⟩
def zcR(m:Nat)(v:Value)(l:Bs)(k:Nat)(w:World)(c:Mdl w m v l k 0)(most:Nat)(hm:most<18446744073709551616) :Calls prog 131 #[.pointer (some ⟨m,0,none⟩),.int .u64 (most:Int)] w (Does w m v l (.int .u64 ((rdU l k most).1:Int)) (rdU l k most).2.1 (rdU l k most).2.2):=by
 have M:=c.rd.small;have H:=c.le;have O:=c.cell2;have t:=zaY (l.drop k);rcases hr:getU (l.drop k)with⟨x,n,h⟩
 rw[hr]at t;dsimp only at t;have s:=h_ hr;by_cases A:h=0
 .subst A;obtain⟨S,I,y,J⟩:=t rfl;simp only[Ay]at y;by_cases p:most<x
  .have f:rdU l k most=(0,k,3):=(by unfold rdU;rw[hr];dsimp only;rw[Aa (by simp),Ab p]);rw[f];dsimp only;clear hr f;go_enter func131,ntmps131;go_wp2_with fail;refine(zcA _ _ _ _ _ _ c).mono ?_;rintro e r⟨u,rfl,b,g⟩;have a:=c.later b l_;go_wp2_with fail;refine(zbD _ _ _ (g _ a.rd)).mono ?_;rintro e D⟨rfl,rfl⟩;rw[s.o];have E:=a.cell2;have G:=a.free 2;have i:=h_ (a.setErr 3);have d:w.grownBy (r.setCell ⟨m,2,none⟩ (.int .i64 ((3:Nat):Int))) (some m):=za0 (below_grown b _) _;have d:=h_ d;clear c a g b;go_wp2;go_ret;exact⟨rfl,d.o,i.o⟩
  have f:rdU l k most=(x,k+n,0):=by unfold rdU;rw[hr];dsimp only;rw[Aa (by simp),Aa p]
  rw[f];dsimp only;clear hr f;go_enter func131,ntmps131;go_wp2_with fail;refine(zcA _ _ _ _ _ _ c).mono ?_;rintro e r⟨u,rfl,b,g⟩;have a:=c.later b l_;go_wp2_with fail;refine(zbD _ _ _ (g _ a.rd)).mono ?_;rintro e D⟨rfl,rfl⟩;rw[s.o];have N:=a.cell1;have Q:=a.free 1;have z:=a.setAt (n:=k+n) (by omega);have j:w.grownBy (r.setCell ⟨m,1,none⟩ (.int .i64 ((k+n:Nat):Int))) (some m):=za0 (below_grown b _) _;have i:=h_ z;have d:=h_ j;clear c a g b z j;rw[show((k+n:Nat):Int)=(k:Int)+(n:Int)from by omega]at *;go_wp2;go_ret;exact⟨rfl,d.o,i.o⟩
 have f:rdU l k most=(0,k,h):=by unfold rdU;rw[hr];dsimp only;rw[Ab A]
 rw[f];dsimp only;have L:((h:Int)!=0)=true:=by simp;omega
 have C:((h:Int)==0)=false:=by simp;omega
 clear hr f;go_enter func131,ntmps131;go_wp2_with fail;refine(zcA _ _ _ _ _ _ c).mono ?_;rintro e r⟨u,rfl,b,g⟩;have a:=c.later b l_;go_wp2_with fail;refine(zbD _ _ _ (g _ a.rd)).mono ?_;rintro e D⟨rfl,rfl⟩;rw[s.o];have E:=a.cell2;have G:=a.free 2;have i:=h_ (a.setErr h);have d:w.grownBy (r.setCell ⟨m,2,none⟩ (.int .i64 (h:Int))) (some m):=za0 (below_grown b _) _;have d:=h_ d;clear c a g b;go_wp2;go_ret;exact⟨rfl,d.o,i.o⟩
def zAI:(rdU l k most).1<2^64:=by
 unfold rdU;split
 ·simp
 split
 ·simp
 rename_i h _;exact(zaY _ (Av h)).1
def zrB(m:Nat)(v:Value)(l:Bs)(k:Nat)(w:World)(f:Mdl w m v l k 0) :Calls prog 182 #[.pointer (some ⟨m,0,none⟩)] w (Does w m v l (.int .i64 (zag (rdU l k 18446744073709551615).1)) (rdU l k 18446744073709551615).2.1 (rdU l k 18446744073709551615).2.2):=by
 have c:=zAI (l:=l) (k:=k) (most:=18446744073709551615);rcases hr:rdU l k 18446744073709551615 with⟨x,n,g⟩
 rw[hr]at c;dsimp only at c ⊢;have d:=h_ hr;clear hr;go_enter func182,ntmps182;go_wp2_with fail;refine(zcR m v l k _ f 18446744073709551615 (by decide)).mono ?_;rw[d.o];dsimp only;rintro e h⟨rfl,b,a⟩;go_wp2_with fail;refine(zGW (x:Int) (by omega) (by omega) _).mono ?_;rintro e i⟨rfl,rfl⟩;go_wp2;go_ret;exact⟨rfl,b,a⟩
def zkX(m:Nat)(v:Value)(l:Bs)(k:Nat)(w:World)(h:Mdl w m v l k 0)(most:Int)(hm:-9223372036854775808<=most/\most<=9223372036854775807) :Calls prog 178 #[.pointer (some ⟨m,0,none⟩),.int .i64 most] w fun e w'=>∃val,Does w m v l val (rdB l k most).2.1 (rdB l k most).2.2 e w'/\Own w' w.heap.size val (rdB l k most).1:=by
 have O:=h.rd.small;have L:=h.le;have C:=h.lt;have U:=h.cell2;have A:=zl2 (l.drop k) most;rcases hr:getB (l.drop k) most with⟨x,n,j⟩
 rw[hr]at A;dsimp only at A;obtain⟨D,M,s⟩:=A;simp only[Ay]at D;have E:=h_ hr;by_cases H:j=0
 .subst H;have p:rdB l k most=(x,k+n,0):=by unfold rdB;rw[hr];dsimp only;rw[Aa (by simp)]
  rw[p];clear hr p s;go_enter func178,ntmps178;go_wp2_with fail;refine(zcA _ _ _ _ _ _ h).mono ?_;rintro e Q⟨u,rfl,c,t⟩;have f:=h.later c l_;go_wp2_with fail;refine(zbT _ _ most hm.1 hm.2 _ (t _ f.rd)).mono ?_;rintro e y⟨I,rfl,d,g⟩;rw[E.o]at d ⊢;dsimp only at d ⊢;have b:=f.later g l_;have S:=b.cell1;have V:=b.free 1;have G:=b.setAt (n:=k+n) (by omega);have r:w.grownBy (y.setCell ⟨m,1,none⟩ (.int .i64 ((k+n:Nat):Int))) (some m):=za0 ((below_grown c _).trans (below_grown g _)) _;have J:Own (y.setCell ⟨m,1,none⟩ (.int .i64 ((k+n:Nat):Int))) w.heap.size I x:=ownsRow_setCell_below (d.base c.size) (a:=⟨m,1,none⟩) C _;have z:=h_ G;have i:=h_ r;clear h f t c G r b d g;rw[show((k+n:Nat):Int)=(k:Int)+(n:Int)from by omega]at *;go_wp2;go_ret;exact⟨_,⟨rfl,i.o,z.o⟩,J⟩
 have p:rdB l k most=([],k,j):=by unfold rdB;rw[hr];dsimp only;rw[Ab H]
 rw[p];have N:((j:Int)!=0)=true:=by simp;omega
 clear hr p s;go_enter func178,ntmps178;go_wp2_with fail;refine(zcA _ _ _ _ _ _ h).mono ?_;rintro e Q⟨u,rfl,c,t⟩;have f:=h.later c l_;go_wp2_with fail;refine(zbT _ _ most hm.1 hm.2 _ (t _ f.rd)).mono ?_;rintro e y⟨I,rfl,d,g⟩;rw[E.o]at d ⊢;dsimp only at d ⊢;have b:=f.later g l_;have T:=b.cell2;have X:=b.free 2;have z:=h_ (b.setErr j);have i:w.grownBy (y.setCell ⟨m,2,none⟩ (.int .i64 (j:Int))) (some m):=za0 ((below_grown c _).trans (below_grown g _)) _;have i:=h_ i;clear h f t c b d g;go_wp2;go_ret;exact⟨_,⟨rfl,i.o,z.o⟩,zaE _ _⟩
def zcS(m:Nat)(v:Value)(l:Bs)(k:Nat)(w:World)(a:Mdl w m v l k 0)(ok:Bool)(x:Nat) :Calls prog 177 #[.pointer (some ⟨m,0,none⟩),.bool ok,.int .i64 (x:Int)] w (Does w m v l (.tuple #[]) k (if ok then 0 else x)):=by
 have d:=a.cell2;have e:=a.free 2;cases ok with
 | true=>
  simp only[if_true];go_enter func177,ntmps177;go_wp2;go_end0;exact⟨rfl,World.grownBy.refl _ _,a⟩
 | false=>
  simp only[Bool.false_eq_true,if_false];have c:=h_ (a.setErr x);have b:w.grownBy (w.setCell ⟨m,2,none⟩ (.int .i64 (x:Int))) (some m):=za0 (World.grownBy.refl _ _) _;have b:=h_ b;clear a;go_enter func177,ntmps177;go_wp2;go_end0;exact⟨rfl,b.o,c.o⟩
def toldM(l:Bs)(k x:Nat):Nat:=if x=0 then(if k<l.length then 7 else 0)else x
def zhR(m:Nat)(v:Value)(l:Bs)(k x:Nat)(w:World)(b:Mdl w m v l k x) :Calls prog 128 #[.pointer (some ⟨m,0,none⟩)] w fun e w'=>e=.returned (.tuple #[.int .i64 (k:Int),.int .i64 (toldM l k x:Int)])/\Lz w w':=by
 have j:=b.cell0;have n:=b.cell1;have p:=b.cell2;have d:=b.rd.len;have i:=b.le;clear b;by_cases g:x=0
 .subst g;by_cases c:k<l.length
  .have a:toldM l k 0=7:=(by simp[toldM,c]);rw[a];clear a;have h:decide ((k:Int)<(l.length:Int))=true:=Ah (by omega);go_enter func128,ntmps128;go_wp2;go_quiet (fail);go_wp2;go_ret2;exact⟨rfl,⟨rfl,rfl,rfl,l_,fun _ _=>rfl⟩⟩
  have a:toldM l k 0=0:=by simp[toldM,c]
  rw[a];clear a;have h:decide ((k:Int)<(l.length:Int))=false:=Af (by omega);go_enter func128,ntmps128;go_wp2;go_quiet (fail);go_wp2;go_region;go_wp2;go_ret2;exact⟨rfl,⟨rfl,rfl,rfl,l_,fun _ _=>rfl⟩⟩
 have a:toldM l k x=x:=Aa g;rw[a];clear a;have f:((x:Int)==0)=false:=by simp;omega
 go_enter func128,ntmps128;go_wp2;go_quiet (fail);go_wp2;go_region;go_wp2;go_ret2;exact⟨rfl,⟨rfl,rfl,rfl,l_,fun _ _=>rfl⟩⟩
/- -/
def zc2(m:Nat)(v:Value)(l:Bs)(k x:Nat)(w:World)(a:Mdl w m v l k x)(ok:Bool)(y:Nat) :Calls prog 177 #[.pointer (some ⟨m,0,none⟩),.bool ok,.int .i64 (y:Int)] w (Does w m v l (.tuple #[]) k (if x=0 then(if ok then 0 else y)else x)):=by
 by_cases b:x=0
 .subst b;rw[Ab rfl];exact zcS m v l k w a ok y
 rw[Aa b];have d:=a.cell2;have e:((x:Int)==0)=false:=by rw[As];omega
 have c:=h_ a;clear b a;go_enter func177,ntmps177;go_wp2;go_end0;exact⟨rfl,World.grownBy.refl _ _,c.o⟩
def zvV(m:Nat)(v:Value)(l:Bs)(k x:Nat)(w:World)(b:Mdl w m v l k x) :Calls prog 179 #[.pointer (some ⟨m,0,none⟩)] w (Does w m v l (.int .u8 (if x=0 then(if k<l.length then at8 l k else 0)else 0)) (if x=0 then(if k<l.length then k+1 else k)else k) (if x=0 then(if k<l.length then 0 else 5)else x)):=by
 by_cases a:x=0
 .subst a;simp only[if_true];exact zxW m v l k w b
 rw[Aa a,Aa a,Aa a];have d:=b.cell2;have e:((x:Int)!=0)=true:=by rw[Ao];omega
 have c:=h_ b;clear a b;go_enter func179,ntmps179;go_wp2;go_ret;exact⟨rfl,World.grownBy.refl _ _,c.o⟩
def zBJ(m:Nat)(v:Value)(l:Bs)(k x:Nat)(w:World)(b:Mdl w m v l k x)(most:Int)(hm:-9223372036854775808<=most/\most<=9223372036854775807) :Calls prog 178 #[.pointer (some ⟨m,0,none⟩),.int .i64 most] w fun e w'=>∃val,Does w m v l val (if x=0 then(rdB l k most).2.1 else k) (if x=0 then(rdB l k most).2.2 else x) e w'/\Own w' w.heap.size val (if x=0 then(rdB l k most).1 else[]):=by
 by_cases a:x=0
 .subst a;simp only[if_true];exact zkX m v l k w b most hm
 rw[Aa a,Aa a,Aa a];have d:=b.cell2;have f:((x:Int)!=0)=true:=by rw[Ao];omega
 have c:=h_ b;clear a b;go_enter func178,ntmps178;go_wp2;go_ret;exact⟨_,⟨rfl,World.grownBy.refl _ _,c.o⟩,zaE _ _⟩
end
section
def getB_put'(l m:Bs)(most:Int)(b:l.length<2^63)(a:(l.length:Int)<=most):getB (encB l++m) most=(l,(encB l).length,0):=by
 have h:=zfE l.length (by omega) (l++m);unfold getB encB;rw[An,h];dsimp only;rw[Aa (by simp),Aa (by omega),Aa (by simp)];rw[B9,Da];simp
section
variable{cs:List Bs}{j n:Nat}
end
/- -/
open Go.RowKit
abbrev Ce:=Nat×Bs
def shr:Bs->Bs->Nat
 | a::r,b::s=>if a=b then shr r s+1 else 0
 | [],_=>0
 | _::_,[]=>0
def zk6(b:Bs):shr [] b=0:=by cases b<;>rfl
def shr_nil'(a:Bs):shr a []=0:=by cases a<;>rfl
def zDT:∀a b:Bs,shr a b=shr b a
 | [],b=>by rw[zk6,shr_nil']
 | a::r,[]=>by rw[zk6,shr_nil']
 | a::r,b::s=>by
  rw[shr,shr,zDT r s];by_cases h:a=b
  .rw[Ab h,Ab h.symm]
  .rw[Aa h,Aa (fun e=>h e.symm)]
def zqF:∀a b:Bs,shr a b<=a.length/\shr a b<=b.length
 | [],b=>by rw[zk6];simp
 | a::r,[]=>by rw[shr_nil'];simp
 | a::r,b::s=>by
  have:=zqF r s;rw[shr,Ap,Ap];split<;>omega
def zvI:∀a b:Bs,a.take (shr a b)=b.take (shr a b)
 | [],b=>by rw[zk6];simp
 | a::r,[]=>by rw[shr_nil'];simp
 | a::r,b::s=>by
  have:=zvI r s;rw[shr];split
  ·rename_i h;rw[BC,BC,this,h]
  .simp
def zFV:∀{n:Nat}{a b:Bs},n<=a.length->n<=b.length->a.take n=b.take n->(n<a.length->n<b.length->a.getD n 0≠b.getD n 0)->shr a b=n
 | 0,[],b,_,_,_,_=>zk6 b
 | 0,a::r,[],_,_,_,_=>shr_nil' _
 | 0,a::r,b::s,_,_,_,h=>by
  rw[shr,Aa];have:=h (by simp) (by simp);simpa using this
 | n+1,[],b,h,_,_,_=>by simp at h
 | n+1,a::r,[],_,h,_,_=>by simp at h
 | n+1,a::r,b::s,h1,h2,h3,h4=>by
  rw[BC,BC]at h3;injection h3 with e1 e2
  rw[shr,Ab e1,zFV (by simpa using h1) (by simpa using h2) e2 (fun c d=>by simpa using h4 (by simpa using c) (by simpa using d))]
def stepZ(p x:Nat):Nat:=zig (wrap64 ((x:Int)-p))
def addZ(p y:Nat):Nat:=(((p:Int)+zag y)%18446744073709551616).toNat
def zoM(p x:Nat):stepZ p x<2^64:=by
 unfold stepZ;exact zeS _ (by unfold wrap64;omega) (by unfold wrap64;omega)
def zuX(p y:Nat):addZ p y<18446744073709551616:=by unfold addZ;omega
variable {b l rest:Bs} {kind:Int} {r:List Nat} {i k m most n p x:Nat}
def zyK(a:x<18446744073709551616):addZ p (stepZ p x)=x:=by
 unfold addZ stepZ;rw[zyQ];unfold wrap64;omega
def zwV {y:Nat}(a:y<18446744073709551616):stepZ p (addZ p y)=y:=by
 have h:wrap64 ((addZ p y:Int)-p)=zag y:=by
  unfold addZ zag wrap64;split<;>omega
 unfold stepZ;rw[h,zyP]
def pc(kind:Int)(i:Nat)(p c:Ce):Bs :=
 if kind=3\/kind=4 then encU (shr p.2 c.2)++encB (c.2.drop (shr p.2 c.2))
 else if i=0/\kind≠0 then encU c.1 else encU (stepZ p.1 c.1)
def zkN(h:kind=3\/kind=4)(i:Nat)(p c:Ce):pc kind i p c=encU (shr p.2 c.2)++encB (c.2.drop (shr p.2 c.2)):=by unfold pc;rw[Ab h]
def zgY(h:¬(kind=3\/kind=4))(a:kind≠0)(p c:Ce):pc kind 0 p c=encU c.1:=by unfold pc;rw[Aa h,Ab ⟨rfl,a⟩]
def zkO(h:¬(kind=3\/kind=4))(a:¬(i=0/\kind≠0))(p c:Ce):pc kind i p c=encU (stepZ p.1 c.1):=by unfold pc;rw[Aa h,Aa a]
def lst(p:Ce):List Ce->Ce
 | []=>p
 | c::r=>lst c r
def zoX:∀(p:Ce)(l:List Ce)(c:Ce),lst p (l++[c])=c
 | p,[],c=>rfl
 | p,a::r,c=>by rw[AQ,lst,zoX a r c]
def wrN(kind:Int):Nat->Ce->List Ce->Bs
 | _,_,[]=>[]
 | i,p,c::r=>pc kind i p c++wrN kind (i+1) c r
def zo7(kind:Int):∀(i:Nat)(p:Ce)(l:List Ce)(c:Ce),wrN kind i p (l++[c])=wrN kind i p l++pc kind (i+l.length) (lst p l) c
 | i,p,[],c=>by rw[AA,wrN,wrN,wrN,lst];simp
 | i,p,a::r,c=>by
  rw[AQ,wrN,zo7 kind (i+1) a r c,wrN,lst,An,Ap];rw[show i+1+r.length=i+(r.length+1)from by omega]
def valB:List Nat->Nat
 | []=>0
 | b::r=>b+2*valB r
def zbY:Nat->Nat->List Nat
 | 0,_=>[]
 | m+1,c=>c%2::zbY m (c/2)
def zcM:∀m c,(zbY m c).length=m
 | 0,c=>rfl
 | m+1,c=>by rw[zbY,Ap,zcM]
def zwF:∀m c,∀x∈zbY m c,x<=1
 | 0,c,x,h=>by rw[zbY]at h;simp at h
 | m+1,c,x,h=>by
  rw[zbY]at h;rcases Ba.1 h with rfl|h
  .omega
  .exact zwF m _ x h
def ztA:∀{l:List Nat},(∀x∈l,x<=1)->valB l<2^l.length
 | [],_=>by simp[valB]
 | b::r,h=>by
  have:=ztA (l:=r) fun x a=>h x (by simp[a]);have c:=h b (by simp);rw[valB,Ap,Bl];omega
def zq2:∀m c,valB (zbY m c)=c%2^m
 | 0,c=>by simp[zbY,valB];omega
 | m+1,c=>by
  rw[zbY,valB,zq2 m (c/2),Bl,BS (2^m) 2,Nat.mod_mul]
def zsO:∀{l:List Nat},(∀x∈l,x<=1)->zbY l.length (valB l)=l
 | [],_=>rfl
 | b::r,h=>by
  have c:=h b (by simp);rw[Ap,zbY,valB,show(b+2*valB r)%2=b by omega,show(b+2*valB r)/2=valB r by omega,zsO fun x a=>h x (by simp[a])]
def zq1:∀(l:List Nat)(c:Nat),valB (l++[c])=valB l+2^l.length*c
 | [],c=>by simp[valB]
 | b::r,c=>by
  rw[AQ,valB,zq1 r c,valB,Ap,Bl,Nat.mul_add,BS (2^r.length) 2,CY];omega
def zeQ(l:List Nat):Bs:=if h:l=[]then[]else UInt8.ofNat (valB (l.take 8))::zeQ (l.drop 8)
termination_by l.length
decreasing_by
 cases l with
 | nil=>exact absurd rfl h
 | cons a r=>rw[Ay,Ap];omega
def zaS:zeQ []=[]:=by rw[zeQ];simp
def zbA{l:List Nat}(h:l≠[]):zeQ l=UInt8.ofNat (valB (l.take 8))::zeQ (l.drop 8):=by rw[zeQ];simp[h]
def ziI:∀(q:Nat)(l:List Nat),l.length<=8*q->(zeQ l).length=(l.length+7)/8
 | 0,l,h=>by
  have:l=[]:=Cx.1 (by omega);subst this;rw[zaS];rfl
 | q+1,l,h=>by
  by_cases a:l=[]
  .subst a;rw[zaS];rfl
  .have hp:0<l.length:=List.length_pos_iff.2 a
   rw[zbA a,Ap,ziI q _ (by rw[Ay];omega),Ay];omega
def zr9(l:List Nat):(zeQ l).length=(l.length+7)/8:=ziI l.length l (by omega)
def zn9:∀(q:Nat)(l:List Nat)(c:Nat),l.length<=8*q->(∀x∈l,x<=1)->c<=1 ->(l.length%8=0->zeQ (l++[c])=zeQ l++[UInt8.ofNat c]) /\(l.length%8≠0->∃b x,zeQ l=b++[x]/\x.toNat<2^(l.length%8)/\zeQ (l++[c])=b++[UInt8.ofNat (x.toNat+2^(l.length%8)*c)])
 | 0,l,c,h,_,_=>by
  have:l=[]:=Cx.1 (by omega);subst this;refine⟨fun _=>?_,fun h=>absurd rfl h⟩;rw[zaS,AA,zbA (by simp),AA];simp[valB,zaS]
 | q+1,l,c,h,hl,hc=>by
  by_cases f:l.length<8
  .by_cases d:l=[]
   .subst d
    refine⟨fun _=>?_,fun h=>absurd rfl h⟩;rw[zaS,AA,zbA (by simp),AA];simp[valB,zaS]
   .have hp:0<l.length:=List.length_pos_iff.2 d
    have r:=ztA hl;have e:l.length%8=l.length:=BA f;rw[e];have g:2^l.length<=2^7:=BE (by decide) (by omega);refine⟨fun h=>by omega,fun _=>⟨[],UInt8.ofNat (valB l),?_,?_,?_⟩⟩
    .rw[zbA d,Am (by omega),Bj (by omega),zaS];rfl
    .rw[UInt8.toNat_ofNat',BA (by omega)];exact r
    .rw[zbA (by simp),Am (by simp;omega),Bj (by simp;omega),zaS,zq1,UInt8.toNat_ofNat',BA (a:=valB l) (by omega)]
     rfl
  .have d:l≠[]:=by intro e;rw[e]at f;simp at f
   have m:(l++[c]).take 8=l.take 8:=by rw[Cd,Nat.sub_eq_zero_of_le (by omega)];simp
   have p:(l++[c]).drop 8=l.drop 8++[c]:=by rw[List.drop_append,Nat.sub_eq_zero_of_le (by omega)];simp
   have hm:(l.drop 8).length%8=l.length%8:=by rw[Ay];omega
   obtain⟨i,k⟩:=zn9 q (l.drop 8) c (by rw[Ay];omega) (fun x s=>hl x (BZ s)) hc;rw[hm]at i k;rw[zbA (l:=l++[c]) (by simp),m,p,zbA d];refine⟨fun h=>by rw[i h];rfl,fun h=>?_⟩;obtain⟨b,x,t,u,v⟩:=k h;exact⟨UInt8.ofNat (valB (l.take 8))::b,x,by rw[t];rfl,u,by rw[v];rfl⟩
def wrC(kind:Int)(cs:List Ce):Bs:=if kind=2 then zeQ (cs.map fun c=>c.1)else wrN kind 0 (0,[]) cs
def errK(kind:Int):List Ce->Nat
 | []=>0
 | c::r=>if checkC kind c.1 c.2≠0 then checkC kind c.1 c.2 else errK kind r
def wrE(kind:Int)(cs:List Ce):Nat:=if kind<0\/5<kind then 10 else errK kind cs
def zgE(kind:Int):∀l m,errK kind (l++m)=if errK kind l≠0 then errK kind l else errK kind m
 | [],m=>by simp[errK]
 | x::r,m=>by
  rw[AQ,errK,zgE kind r m,errK];by_cases h:checkC kind x.1 x.2=0
  .have a:¬checkC kind x.1 x.2≠0:=fun b=>b h
   rw[Aa a,Aa a]
  .rw[Ab h,Ab h,Ab h]
def zCC{c:Ce}{r:List Ce}(h:errK kind (c::r)=0):checkC kind c.1 c.2=0/\errK kind r=0:=by
 rw[errK]at h;by_cases a:checkC kind c.1 c.2≠0
 .rw[Ab a]at h;exact absurd h a
 rw[Aa a]at h;exact⟨Av a,h⟩
def rd1(l:Bs)(kind:Int)(i:Nat)(p:Ce)(k:Nat):Ce×Nat×Nat :=
 if kind=3\/kind=4 then
  if(rdU l k p.2.length).2.2≠0 then((0,[]),(rdU l k p.2.length).2.1,(rdU l k p.2.length).2.2)
  else if(rdB l (rdU l k p.2.length).2.1 (256-(rdU l k p.2.length).1)).2.2≠0 then((0,[]),(rdB l (rdU l k p.2.length).2.1 (256-(rdU l k p.2.length).1)).2.1,(rdB l (rdU l k p.2.length).2.1 (256-(rdU l k p.2.length).1)).2.2)
  else if shr p.2 (p.2.take (rdU l k p.2.length).1++(rdB l (rdU l k p.2.length).2.1 (256-(rdU l k p.2.length).1)).1)≠(rdU l k p.2.length).1 then((0,[]),(rdB l (rdU l k p.2.length).2.1 (256-(rdU l k p.2.length).1)).2.1,6)
  else if kind=4/\utf8 (p.2.take (rdU l k p.2.length).1++(rdB l (rdU l k p.2.length).2.1 (256-(rdU l k p.2.length).1)).1)=false then((0,[]),(rdB l (rdU l k p.2.length).2.1 (256-(rdU l k p.2.length).1)).2.1,11)
  else((0,p.2.take (rdU l k p.2.length).1++(rdB l (rdU l k p.2.length).2.1 (256-(rdU l k p.2.length).1)).1),(rdB l (rdU l k p.2.length).2.1 (256-(rdU l k p.2.length).1)).2.1,0)
 else if(rdU l k 18446744073709551615).2.2≠0 then((0,[]),(rdU l k 18446744073709551615).2.1,(rdU l k 18446744073709551615).2.2)
 else if i=0/\kind≠0 then(((rdU l k 18446744073709551615).1,[]),(rdU l k 18446744073709551615).2.1,0)
 else((addZ p.1 (rdU l k 18446744073709551615).1,[]),(rdU l k 18446744073709551615).2.1,0)
def rdN(l:Bs)(kind:Int):Nat->Ce->List Ce->Nat->List Ce×Nat×Nat
 | 0,_,acc,k=>(acc,k,0)
 | m+1,p,acc,k=>if(rd1 l kind acc.length p k).2.2≠0 then([],(rd1 l kind acc.length p k).2.1,(rd1 l kind acc.length p k).2.2)else rdN l kind m (rd1 l kind acc.length p k).1 (acc++[(rd1 l kind acc.length p k).1]) (rd1 l kind acc.length p k).2.1
def zc6(l:List Nat):List Ce:=l.map fun x=>(x,[])
def rdQ(l:Bs):Nat->Nat->List Ce->Nat->List Ce×Nat×Nat
 | 0,_,acc,k=>(acc,k,0)
 | q+1,n,acc,k=>
  if l.length<=k then([],k,5)
  else if(l.getD k 0).toNat/2^min 8 n≠0 then([],k+1,6)
  else rdQ l q (n-min 8 n) (acc++zc6 (zbY (min 8 n) (l.getD k 0).toNat)) (k+1)
def rdK(l:Bs)(kind n:Int)(k:Nat):List Ce×Nat×Nat :=
 if kind<0\/5<kind then([],k,10)
 else if n<0\/1024<n then([],k,3)
 else if kind=2 then rdQ l ((n.toNat+7)/8) n.toNat [] k
 else rdN l kind n.toNat (0,[]) [] k
/- -/
def zs6{x:Bs}(h:x=(l.drop k).take n):l.take (k+n)=l.take k++x:=by
 rw[h,Cy]
def zcE(f:k<=l.length)(h:(rdU l k most).2.2=0) :l.take (rdU l k most).2.1=l.take k++encU (rdU l k most).1/\(rdU l k most).2.1<=l.length/\(rdU l k most).1<=most:=by
 unfold rdU at h ⊢;by_cases a:(getU (l.drop k)).2.2≠0
 .rw[Ab a]at h;exact absurd h a
 rw[Aa a]at h ⊢;by_cases c:most<(getU (l.drop k)).1
 .rw[Ab c]at h;cases h
 rw[Aa c];have b:(getU (l.drop k)).2.2=0:=Av a;have e:=zaY (l.drop k) b;have d:encU (getU (l.drop k)).1=(l.drop k).take (getU (l.drop k)).2.1:=zp4 (l:=l.drop k) (by rw[<-b]);rw[Ay]at e;exact⟨zs6 d,by dsimp only;omega,by dsimp only;omega⟩
def zhX(a:k<=l.length):(rdU l k most).2.1<=l.length:=by
 by_cases h:(rdU l k most).2.2=0
 .exact(zcE a h).2.1
 unfold rdU at h ⊢;split
 ·exact a
 rename_i h1;rw[Aa h1]at h;split
 ·exact a
 rename_i h2;rw[Aa h2]at h;exact absurd rfl h
def zh9{most:Int}(g:k<=l.length)(h:(rdB l k most).2.2=0) :l.take (rdB l k most).2.1=l.take k++encB (rdB l k most).1/\(rdB l k most).2.1<=l.length/\((rdB l k most).1.length:Int)<=most:=by
 unfold rdB at h ⊢;by_cases a:(getB (l.drop k) most).2.2≠0
 .rw[Ab a]at h;exact absurd h a
 rw[Aa a];have b:(getB (l.drop k) most).2.2=0:=Av a;obtain⟨f,e,d,_⟩:=zp6 (l:=l.drop k) (most:=most) (c:=(getB (l.drop k) most).1) (n:=(getB (l.drop k) most).2.1) (by rw[<-b]);rw[Ay]at d;refine⟨zs6 f,by dsimp only;omega,?_⟩;dsimp only;clear f e d a h;unfold getB at b ⊢;split at b
 .rename_i a;exact absurd b a
 rename_i a;split at b
 .cases b
 rename_i e;split at b
 .cases b
 rename_i d;rw[Aa a,Aa e,Aa d];dsimp only;rw[Aq];omega
def zhZ{most:Int}(a:k<=l.length):(rdB l k most).2.1<=l.length:=by
 by_cases h:(rdB l k most).2.2=0
 .exact(zh9 a h).2.1
 unfold rdB at h ⊢;split
 ·exact a
 rename_i h1;rw[Aa h1]at h;exact absurd rfl h
def zhY(a:l.drop k=encU x++rest)(b:x<2^64)(hm:x<=most):rdU l k most=(x,k+(encU x).length,0):=by
 unfold rdU;rw[a,zfE x b rest];dsimp only;rw[Aa (by omega),Aa (by omega)]
def zHU {n:Bs}{most:Int}(a:l.drop k=encB n++rest)(b:n.length<2^63)(hm:(n.length:Int)<=most):rdB l k most=(n,k+(encB n).length,0):=by
 unfold rdB;rw[a,getB_put' n rest most b hm];rfl
def zfH {a:Bs}(c:l.drop k=a++b):l.drop (k+a.length)=b:=by
 rw[<-B0,c,B4 rfl]
structure Fit(kind:Int)(c:Ce):Prop where
 ok:checkC kind c.1 c.2=0
 lt:c.1<18446744073709551616
def Fit.text{c:Ce}(h:Fit kind c)(e:kind=3\/kind=4):c.1=0/\c.2.length<=256/\(kind=4->utf8 c.2=true):=by
 have a:=h.ok;unfold checkC at a;rw[Aa (by omega)]at a;split at a
 .cases a
 rename_i h1;split at a
 .cases a
 rename_i h2;refine⟨?_,by omega,fun d=>?_⟩
 .apply Av;intro b;exact h1 (.inl ⟨e,b⟩)
 cases hu:utf8 c.2 with
 | true=>rfl
 | false=>exact absurd (.inr (.inr (.inr ⟨d,hu⟩))) h1
def Fit.num{c:Ce}(h:Fit kind c)(e:¬(kind=3\/kind=4)):c.2=[]/\(kind=2->c.1<=1):=by
 have a:=h.ok;unfold checkC at a;split at a
 .cases a
 split at a
 .cases a
 rename_i h1;refine⟨?_,fun d=>?_⟩
 .apply Av;intro b;exact h1 (.inr (.inl ⟨e,b⟩))
 apply Nat.le_of_not_lt;intro b;exact h1 (.inr (.inr (.inl ⟨d,b⟩)))
def zdZ(h:0<=kind/\kind<=5)(b:¬(kind=3\/kind=4))(c:kind=2->n<=1):checkC kind n []=0:=by
 unfold checkC;rw[Aa (by omega),Aa,Aa (by simp)];rintro(⟨a,_⟩|⟨_,a⟩|⟨a,d⟩|⟨a,_⟩)
 .exact b a
 .exact a rfl
 .have:=c a;omega
 exact b (.inr a)
def zgH{t:Bs}(c:kind=3\/kind=4)(e:t.length<=256)(d:kind=4->utf8 t=true):checkC kind 0 t=0:=by
 unfold checkC;rw[Aa (by omega),Aa,Aa (by omega)];rintro(⟨_,a⟩|⟨a,_⟩|⟨a,b⟩|⟨a,b⟩)
 .exact a rfl
 .exact a c
 .omega
 rw[d a]at b;cases b
def zAU{p:Ce}(D:k<=l.length)(hK:0<=kind/\kind<=5)(C:kind≠2)(h:(rd1 l kind i p k).2.2=0) :l.take (rd1 l kind i p k).2.1=l.take k++pc kind i p (rd1 l kind i p k).1/\(rd1 l kind i p k).2.1<=l.length/\Fit kind (rd1 l kind i p k).1:=by
 by_cases d:kind=3\/kind=4
 .unfold rd1 at h ⊢;rw[Ab d]at h ⊢;by_cases a:(rdU l k p.2.length).2.2=0
  .obtain⟨b,c,g⟩:=zcE D a;rw[Aa (fun f=>f a)]at h ⊢;rcases hr:rdU l k p.2.length with⟨x,z,E⟩
   rw[hr]at h b c g;dsimp only at h b c g ⊢;by_cases s:(rdB l z (256-(x:Int))).2.2=0
   .obtain⟨u,v,A⟩:=zh9 c s;rw[Aa (fun f=>f s)]at h ⊢;rcases hs:rdB l z (256-(x:Int))with⟨t,I,H⟩
    rw[hs]at h u v A;dsimp only at h u v A ⊢;by_cases w:shr p.2 (p.2.take x++t)=x
    .rw[Aa (fun f=>f w)]at h ⊢;by_cases y:kind=4/\utf8 (p.2.take x++t)=false
     .rw[Ab y]at h;cases h
     rw[Aa y];have r:(p.2.take x).length=x:=(by rw[Aq];omega);dsimp only;refine⟨?_,v,?_,by dsimp only;omega⟩
     .rw[zkN d];dsimp only;rw[w,u,b,An,B4 r]
     dsimp only;refine zgH d (by rw[Ae,r];omega) (fun G=>?_);cases hv:utf8 (p.2.take x++t)with
     | true=>rfl
     | false=>exact absurd ⟨G,hv⟩ y
    rw[Ab w]at h;cases h
   rw[Ab s]at h;exact absurd h s
  rw[Ab a]at h;exact absurd h a
 unfold rd1 at h ⊢;rw[Aa d]at h ⊢;by_cases a:(rdU l k 18446744073709551615).2.2=0
 .obtain⟨b,c,g⟩:=zcE D a;rw[Aa (fun f=>f a)];rcases hr:rdU l k 18446744073709551615 with⟨x,z,E⟩
  rw[hr]at b c g;dsimp only at b c g ⊢;by_cases m:i=0/\kind≠0
  .rw[Ab m];dsimp only;refine⟨?_,c,zdZ hK d (fun e=>absurd e C),by dsimp only;omega⟩;rw[b,m.1,zgY d m.2]
  rw[Aa m];dsimp only;refine⟨?_,c,zdZ hK d (fun e=>absurd e C),zuX _ _⟩;rw[b,zkO d m];dsimp only;rw[zwV (by omega)]
 rw[Ab a]at h;exact absurd h a
def zr5{p:Ce}(b:k<=l.length):(rd1 l kind i p k).2.1<=l.length:=by
 have a:=fun most=>zhX (most:=most) b;unfold rd1;split
 ·split
  ·exact a _
  split
  ·exact zhZ (a _)
  split
  ·exact zhZ (a _)
  split<;>exact zhZ (a _)
 split
 ·exact a _
 split<;>exact a _
def zDS{p c:Bs}:p.take (shr p c)++c.drop (shr p c)=c:=by
 rw[zvI,A0]
def zH3{p c:Ce}(y:kind≠2)(a:l.drop k=pc kind i p c++rest)(f:Fit kind c):rd1 l kind i p k=(c,k+(pc kind i p c).length,0):=by
 by_cases b:kind=3\/kind=4
 .obtain⟨e,s,t⟩:=f.text b;obtain⟨x,z⟩:=zqF p.2 c.2;rw[zkN b]at a ⊢;rw[An]at a;have v:=zhY (most:=p.2.length) a (by omega) x;have g:=zfH a;have u:=zHU (most:=256-(shr p.2 c.2:Int)) g (by rw[Ay];omega) (by rw[Ay];omega);unfold rd1;rw[Ab b,v];dsimp only;rw[u];dsimp only;rw[Aa (by omega),Aa (by omega),zDS,Aa (by omega),Aa (fun h=>by rw[t h.1]at h;exact absurd h.2 (by decide))];rw[Ae];refine Prod.ext (Prod.ext e.symm rfl) (Prod.ext (by dsimp only;omega) rfl)
 obtain⟨e,s⟩:=f.num b;have r:=f.lt;unfold rd1;rw[Aa b];by_cases m:i=0/\kind≠0
 .obtain⟨rfl,d⟩:=m;rw[zgY b d]at a ⊢;rw[zhY (most:=18446744073709551615) a (by omega) (by omega)];dsimp only;rw[Aa (by omega),Ab ⟨rfl,d⟩];exact Prod.ext (Prod.ext rfl e.symm) rfl
 rw[zkO b m]at a ⊢;have w:=zoM p.1 c.1;rw[zhY (most:=18446744073709551615) a w (by omega)];dsimp only;rw[Aa (by omega),Aa m,zyK r];exact Prod.ext (Prod.ext rfl e.symm) rfl
def zjI{r:List Ce}(h:errK kind r=0)(d:∀c∈r,c.1<18446744073709551616):∀c∈r,Fit kind c:=by
 induction r with
 | nil=>intro c b;simp at b
 | cons a r ih=>
  obtain⟨e,f⟩:=zCC h;intro c b;rcases Ba.1 b with rfl|b
  .exact⟨e,d _ (by simp)⟩
  exact ih f (fun x g=>d x (by simp[g])) c b
def zw6{r:List Ce}(h:∀c∈r,Fit kind c):errK kind r=0:=by
 induction r with
 | nil=>rfl
 | cons a r ih=>
  rw[errK,Aa (fun d=>d (h a (by simp)).ok)];exact ih fun c b=>h c (by simp[b])
def zAN(l:Bs){kind:Int}(hK:0<=kind/\kind<=5)(f:kind≠2)(P:Bs)(b:Ce):∀(m:Nat)(a:List Ce)(k:Nat),k<=l.length->l.take k=P++wrN kind 0 b a->(∀c∈a,Fit kind c)->(rdN l kind m (lst b a) a k).2.2=0 ->l.take (rdN l kind m (lst b a) a k).2.1=P++wrN kind 0 b (rdN l kind m (lst b a) a k).1/\(rdN l kind m (lst b a) a k).2.1<=l.length/\(∀c∈(rdN l kind m (lst b a) a k).1,Fit kind c)/\(rdN l kind m (lst b a) a k).1.length=a.length+m
 | 0,a,k,hk,ht,he,h=>by rw[rdN];exact⟨ht,hk,he,rfl⟩
 | m+1,a,k,hk,ht,he,h=>by
  rw[rdN]at h ⊢;by_cases e:(rd1 l kind a.length (lst b a) k).2.2≠0
  .rw[Ab e]at h;exact absurd h e
  .rw[Aa e]at h ⊢
   obtain⟨g,i,p⟩:=zAU hk hK f (Av e);have ih:=zAN l hK f P b m (a++[(rd1 l kind a.length (lst b a) k).1]) (rd1 l kind a.length (lst b a) k).2.1 i (by
    rw[g,ht,zo7,An,A5]) (fun c d=>by
    rcases AD.1 d with d|d
    .exact he c d
    .rw[AH]at d;rw[d];exact p)
   rw[zoX]at ih;have ih:=ih h;refine⟨ih.1,ih.2.1,ih.2.2.1,?_⟩;rw[ih.2.2.2,Ae,AN];omega
def zr3(l:Bs)(kind:Int):∀(m:Nat)(p:Ce)(a:List Ce)(k:Nat),k<=l.length->(rdN l kind m p a k).2.1<=l.length
 | 0,p,a,k,hk=>by rw[rdN];exact hk
 | m+1,p,a,k,hk=>by
  rw[rdN];split
  ·exact zr5 hk
  .exact zr3 l kind m _ _ _ (zr5 hk)
def zvQ {b:Nat}{p c:Ce}{a:List Ce}(h:rd1 l kind a.length p k=(c,b,0)):rdN l kind (m+1) p a k=rdN l kind m c (a++[c]) b:=by
 rw[rdN,h,Aa (by simp)]
def zAM(l m:Bs){kind:Int}(d:kind≠2):∀(r:List Ce)(p:Ce)(a:List Ce)(k:Nat),l.drop k=wrN kind a.length p r++m->(∀c∈r,Fit kind c)->rdN l kind r.length p a k=(a++r,k+(wrN kind a.length p r).length,0)
 | [],p,a,k,hd,he=>by rw[Bh,rdN];simp[wrN]
 | c::r,p,a,k,hd,he=>by
  rw[wrN,An]at hd;have hp:=zH3 d hd (he c (by simp));have b:=zfH hd;rw[show a.length+1=(a++[c]).length from by simp]at b;rw[Ap,zvQ hp,zAM l m d r c (a++[c]) _ b (fun x e=>he x (by simp[e])),wrN,Ae];simp[BD]
/- -/
def zI2 {c:Nat}(h:c/2^m=0):c<2^m:=by
 rcases Nat.div_eq_zero_iff.1 h with h|h
 .have:=BP m;omega
 exact h
def zm7(a b:List Nat):zc6 (a++b)=zc6 a++zc6 b:=by unfold zc6;rw[AC]
def zF5(h:k<l.length):l.take (k+1)=l.take k++[l.getD k 0]:=by
 rw[BB h];simp[List.getD,h]
def ztW {a:List Nat}(c:a≠[])(b:a.length<=8)(d:a.length<8->r=[]):zeQ (a++r)=UInt8.ofNat (valB a)::zeQ r:=by
 rw[zbA (by simp[c])];by_cases h:a.length<8
 .have:=d h;subst this;rw[AV,Am b,Bj b]
 have e:a.length=8:=by omega
 rw[BR e,B4 e]
def zAL(l:Bs):∀(q n:Nat)(a:List Ce)(k:Nat),q=(n+7)/8->k<=l.length->(rdQ l q n a k).2.2=0 ->∃r,(rdQ l q n a k).1=a++zc6 r/\r.length=n/\(∀x∈r,x<=1)/\l.take (rdQ l q n a k).2.1=l.take k++zeQ r/\(rdQ l q n a k).2.1<=l.length
 | 0,n,a,k,hq,hk,h=>by
  rw[rdQ];exact⟨[],by simp[zc6],by simp;omega,by simp,by rw[zaS];simp,hk⟩
 | q+1,n,a,k,hq,hk,h=>by
  rw[rdQ]at h ⊢;by_cases d:l.length<=k
  .rw[Ab d]at h;cases h
  .rw[Aa d]at h ⊢
   by_cases c:(l.getD k 0).toNat/2^min 8 n≠0
   .rw[Ab c]at h;cases h
   .rw[Aa c]at h ⊢
    have f:=zI2 (Av c);obtain⟨m,hm⟩:=nm_ (min 8 n);rw[<-hm]at h f ⊢;obtain⟨r,g,i,p,s,t⟩:=zAL l q (n-m) (a++zc6 (zbY m (l.getD k 0).toNat)) (k+1) (by omega) (by omega) h;refine⟨zbY m (l.getD k 0).toNat++r,?_,?_,?_,?_,t⟩
    .rw[g,zm7,An]
    .rw[Ae,zcM,i];omega
    .intro x b
     rcases AD.1 b with b|b
     .exact zwF _ _ x b
     .exact p x b
    .rw[s,zF5 (by omega),ztW (by intro e;have:=congrArg List.length e;rw[zcM]at this;simp at this;omega) (by rw[zcM];omega) (fun h=>by rw[zcM]at h;exact Cx.1 (by omega))]
     rw[zq2,BA f,An];simp
def zr0(l:Bs):∀(q n:Nat)(a:List Ce)(k:Nat),k<=l.length->(rdQ l q n a k).2.1<=l.length
 | 0,n,a,k,hk=>by rw[rdQ];exact hk
 | q+1,n,a,k,hk=>by
  rw[rdQ];split
  ·exact hk
  .split
   ·dsimp only;omega
   .exact zr0 l q _ _ _ (by omega)
def zzO(h:∀x∈r,x<=1):valB (r.take 8)<2^min 8 r.length/\valB (r.take 8)<256/\zbY (min 8 r.length) (valB (r.take 8))=r.take 8:=by
 have a:∀x∈r.take 8,x<=1:=fun x e=>h x (A9 e);have d:(r.take 8).length=min 8 r.length:=Aq;have c:=ztA a;have hp:2^(r.take 8).length<=2^8:=BE (by decide) (by omega);have b:=zsO a;rw[d]at c b hp;exact⟨c,by omega,b⟩
def zF4{x:UInt8}(c:l.drop k=x::b):k<l.length/\l.getD k 0=x/\l.drop (k+1)=b:=by
 have a:k<l.length:=by
  have:=congrArg List.length c;rw[Ay,Ap]at this;omega
 rw[Bf a]at c;injection c with e1 e2
 exact⟨a,by rw[<-e1];simp[List.getD,a],e2⟩
def zAK(l m:Bs):∀(q:Nat)(r:List Nat)(a:List Ce)(k:Nat),q=(r.length+7)/8->(∀x∈r,x<=1)->l.drop k=zeQ r++m->rdQ l q r.length a k=(a++zc6 r,k+(zeQ r).length,0)
 | 0,r,a,k,hq,h1,hd=>by
  have:r=[]:=Cx.1 (by omega);subst this;rw[rdQ,zaS];simp[zc6]
 | q+1,r,a,k,hq,h1,hd=>by
  have c:r≠[]:=by intro e;rw[e]at hq;simp at hq
  rw[zbA c,AQ]at hd;obtain⟨i,d,f⟩:=zF4 hd;obtain⟨g,p,h⟩:=zzO h1;have b:(l.getD k 0).toNat=valB (r.take 8):=by rw[d,UInt8.toNat_ofNat'];omega
  rw[rdQ,Aa (by omega),b,Aa (by rw[Nat.div_eq_of_lt g];simp),h,show r.length-min 8 r.length=(r.drop 8).length from by rw[Ay];omega];rw[zAK l m q (r.drop 8) _ _ (by rw[Ay];omega) (fun x b=>h1 x (BZ b)) f];rw[An,<-zm7,A0,zbA (l:=r) c,Ap];rw[BD,Nat.add_comm 1]
def zw7{cs:List Ce}(h:∀c∈cs,Fit 2 c):cs=zc6 (cs.map fun c=>c.1)/\∀x∈cs.map (fun c=>c.1),x<=1:=by
 refine⟨?_,?_⟩
 .unfold zc6;rw[A6];refine(CG cs).symm.trans (BI fun c a=>?_);obtain⟨b,_⟩:=(h c a).num (by decide);exact Prod.ext rfl b
 intro x d;obtain⟨c,a,rfl⟩:=Au.1 d;exact((h c a).num (by decide)).2 rfl
def zFF(h:∀x∈r,x<=1):(zc6 r).map (fun c:Ce=>c.1)=r/\∀c∈zc6 r,Fit 2 c:=by
 refine⟨by unfold zc6;rw[A6];exact CG r,fun c a=>?_⟩;obtain⟨x,b,rfl⟩:=Au.1 a;have:=h x b;exact⟨zdZ (by decide) (by decide) (fun _=>this),by dsimp only;omega⟩
def zoU {n:Int}(i:k<=l.length)(h:(rdK l kind n k).2.2=0) :l.take (rdK l kind n k).2.1=l.take k++wrC kind (rdK l kind n k).1/\(rdK l kind n k).2.1<=l.length/\(0<=kind/\kind<=5)/\(∀c∈(rdK l kind n k).1,Fit kind c)/\(((rdK l kind n k).1.length:Nat):Int)=n/\n<=1024:=by
 unfold rdK at h ⊢;by_cases f:kind<0\/5<kind
 .rw[Ab f]at h;cases h
 rw[Aa f]at h ⊢;by_cases g:n<0\/1024<n
 .rw[Ab g]at h;cases h
 rw[Aa g]at h ⊢;by_cases e:kind=2
 .subst e;rw[Ab rfl]at h ⊢;obtain⟨r,m,t,u,v,w⟩:=zAL l _ n.toNat [] k rfl i h;rw[AA]at m;obtain⟨p,s⟩:=zFF u;rw[m];refine⟨?_,w,by omega,s,?_,by omega⟩
  .rw[v];unfold wrC;rw[Ab rfl,p]
  unfold zc6;rw[Ad,t];omega
 rw[Aa e]at h ⊢;obtain⟨a,b,c,d⟩:=zAN l (by omega) e (l.take k) (0,[]) n.toNat [] k i (by simp[wrN]) (by simp) h;rw[lst]at a b c d;refine⟨?_,b,by omega,c,?_,by omega⟩
 .rw[a];unfold wrC;rw[Aa e]
 rw[d,Bh];omega
def zAO {n:Int}(a:k<=l.length):(rdK l kind n k).2.1<=l.length:=by
 unfold rdK;split
 ·exact a
 split
 ·exact a
 split
 ·exact zr0 l _ _ _ k a
 exact zr3 l kind _ _ _ k a
def zH0 {m:Bs}{cs:List Ce}(hK:0<=kind/\kind<=5)(d:∀c∈cs,Fit kind c)(h:cs.length<=1024)(a:l.drop k=wrC kind cs++m) :rdK l kind cs.length k=(cs,k+(wrC kind cs).length,0):=by
 unfold rdK;rw[Aa (by omega),Aa (by omega),Aw];unfold wrC at a ⊢;by_cases b:kind=2
 .subst b;rw[Ab rfl]at a ⊢;obtain⟨f,g⟩:=zw7 d;have e:=zAK l m _ _ [] k rfl g a;rw[Ad,<-f,AA]at e;rw[Ab rfl];exact e
 rw[Aa b]at a ⊢;rw[Aa b];have e:=zAM l m b cs (0,[]) [] k a d;rw[AA]at e;exact e
def sumT:List Ce->Nat
 | []=>0
 | c::r=>c.2.length+sumT r
def zwA(h:x<=256):(encU x).length<=2:=by
 have:=zs2 h;have e:(encU 256).length=2:=by rw[zeH];decide
 omega
def zJ9{p c:Ce}(d:Fit kind c):(pc kind i p c).length<=10+c.2.length:=by
 by_cases a:kind=3\/kind=4
 .obtain⟨g,h,k⟩:=d.text a;obtain⟨r,s⟩:=zqF p.2 c.2;rw[zkN a,Ae,zbG,Ay];have l:=zwA (x:=shr p.2 c.2) (by omega);have m:=zwA (x:=c.2.length-shr p.2 c.2) (by omega);omega
 have f:=d.lt;by_cases e:i=0/\kind≠0
 .obtain⟨rfl,b⟩:=e;rw[zgY a b];have:=zaA c.1 (by omega);omega
 rw[zkO a e];have:=zaA _ (zoM p.1 c.1);omega
def zFO(kind:Int):∀(i:Nat)(p:Ce)(cs:List Ce),(∀c∈cs,Fit kind c)->(wrN kind i p cs).length<=10*cs.length+sumT cs
 | i,p,[],h=>by simp[wrN,sumT]
 | i,p,c::r,h=>by
  have:=zJ9 (i:=i) (p:=p) (h c (by simp));have ih:=zFO kind (i+1) c r fun x a=>h x (by simp[a]);rw[wrN,Ae,Ap,sumT];omega
def zyV{cs:List Ce}(h:∀c∈cs,Fit kind c):(wrC kind cs).length<=10*cs.length+sumT cs:=by
 unfold wrC;split
 ·rw[zr9,Ad];omega
 exact zFO kind 0 _ cs h
/- -/
def zrH(a:Nat):List Nat->Nat
 | []=>a
 | x::r=>zrH x r
def stp:Nat->List Nat->Bs
 | _,[]=>[]
 | a,x::r=>encU (stepZ a x)++stp x r
def znE:∀(a:Nat)(l:List Nat)(x:Nat),zrH a (l++[x])=x
 | a,[],x=>rfl
 | a,y::r,x=>by rw[AQ,zrH,znE y r x]
def zvH:∀(a:Nat)(l:List Nat)(x:Nat),stp a (l++[x])=stp a l++encU (stepZ (zrH a l) x)
 | a,[],x=>by rw[AA,stp,stp,stp,zrH];simp
 | a,y::r,x=>by rw[AQ,stp,zvH y r x,stp,zrH,An]
def zt3{kind:Int}(a:¬(kind=3\/kind=4)):∀(i:Nat)(p:Ce)(cs:List Ce),(i≠0\/kind=0)->wrN kind i p cs=stp p.1 (cs.map fun c=>c.1)
 | i,p,[],_=>rfl
 | i,p,c::r,h=>by
  rw[wrN,zkO a (by omega),zt3 a (i+1) c r (by omega),AT,stp]
def zFU:∀(a:Nat)(l:List Nat),(stp a l).length<=10*l.length
 | a,[]=>by simp[stp]
 | a,x::r=>by
  have:=zFU x r;have b:=zaA _ (zoM a x);rw[stp,Ae,Ap];omega
def zDG(cs:List Ce):wrC 0 cs=stp 0 (cs.map fun c=>c.1):=by
 unfold wrC;rw[Aa (by decide)];exact zt3 (by decide) 0 (0,[]) cs (.inr rfl)
def zyU(a:kind=1\/kind=5)(c:Ce)(r:List Ce):wrC kind (c::r)=encU c.1++stp c.1 (r.map fun c=>c.1):=by
 unfold wrC;rw[Aa (by omega),wrN,zgY (by omega) (by omega),zt3 (by omega) 1 c r (.inl (by decide))]
def zo8(kind:Int):wrC kind []=[]:=by
 unfold wrC;split
 ·exact zaS
 rfl
def zE5{p:Ce}(c:¬(kind=3\/kind=4))(a:¬(i=0/\kind≠0))(h:(rdU l k 18446744073709551615).2.2=0) :rd1 l kind i p k=((addZ p.1 (rdU l k 18446744073709551615).1,[]),(rdU l k 18446744073709551615).2.1,0):=by
 unfold rd1;rw[Aa c,Aa (fun b=>b h),Aa a]
def zE6{p:Ce}(c:¬(kind=3\/kind=4))(a:kind≠0)(h:(rdU l k 18446744073709551615).2.2=0) :rd1 l kind 0 p k=(((rdU l k 18446744073709551615).1,[]),(rdU l k 18446744073709551615).2.1,0):=by
 unfold rd1;rw[Aa c,Aa (fun b=>b h),Ab ⟨rfl,a⟩]
def zr4{p:Ce}(a:¬(kind=3\/kind=4))(h:(rdU l k 18446744073709551615).2.2≠0) :rd1 l kind i p k=((0,[]),(rdU l k 18446744073709551615).2.1,(rdU l k 18446744073709551615).2.2):=by
 unfold rd1;rw[Aa a,Ab h]
def zoT {b:Nat}{p c:Ce}{a:List Ce}(h:rd1 l kind a.length p k=(c,b,x))(d:x≠0):rdN l kind (m+1) p a k=([],b,x):=by
 rw[rdN,h,Ab d]
def rdT(l p:Bs)(k:Nat):Bs×Nat×Nat :=
 if(rdU l k p.length).2.2≠0 then([],(rdU l k p.length).2.1,(rdU l k p.length).2.2)
 else if(rdB l (rdU l k p.length).2.1 (256-(rdU l k p.length).1)).2.2≠0 then([],(rdB l (rdU l k p.length).2.1 (256-(rdU l k p.length).1)).2.1,(rdB l (rdU l k p.length).2.1 (256-(rdU l k p.length).1)).2.2)
 else if shr p (p.take (rdU l k p.length).1++(rdB l (rdU l k p.length).2.1 (256-(rdU l k p.length).1)).1)≠(rdU l k p.length).1 then([],(rdB l (rdU l k p.length).2.1 (256-(rdU l k p.length).1)).2.1,6)
 else(p.take (rdU l k p.length).1++(rdB l (rdU l k p.length).2.1 (256-(rdU l k p.length).1)).1,(rdB l (rdU l k p.length).2.1 (256-(rdU l k p.length).1)).2.1,0)
def zH2{p:Ce}(d:kind=3\/kind=4) :rd1 l kind i p k=if(rdT l p.2 k).2.2≠0 then((0,[]),(rdT l p.2 k).2.1,(rdT l p.2 k).2.2)else if kind=4/\utf8 (rdT l p.2 k).1=false then((0,[]),(rdT l p.2 k).2.1,11)else((0,(rdT l p.2 k).1),(rdT l p.2 k).2.1,0):=by
 unfold rd1 rdT;rw[Ab d];by_cases a:(rdU l k p.2.length).2.2≠0
 .rw[Ab a,Ab a];dsimp only;rw[Ab a]
 rw[Aa a,Aa a];by_cases b:(rdB l (rdU l k p.2.length).2.1 (256-(rdU l k p.2.length).1)).2.2≠0
 .rw[Ab b,Ab b];dsimp only;rw[Ab b]
 rw[Aa b,Aa b];by_cases c:shr p.2 (p.2.take (rdU l k p.2.length).1++(rdB l (rdU l k p.2.length).2.1 (256-(rdU l k p.2.length).1)).1)≠(rdU l k p.2.length).1
 .rw[Ab c,Ab c];rfl
 rw[Aa c,Aa c];rfl
def zE2 {p:Bs}(c:k<=l.length)(hp:p.length<=256):(rdT l p k).1.length<=256:=by
 unfold rdT;by_cases a:(rdU l k p.length).2.2≠0
 .rw[Ab a];simp
 rw[Aa a];have d:=zcE c (Av a);by_cases b:(rdB l (rdU l k p.length).2.1 (256-(rdU l k p.length).1)).2.2≠0
 .rw[Ab b];simp
 rw[Aa b];have e:=zh9 d.2.1 (Av b);split
 ·simp
 dsimp only;rw[Ae,Aq];omega
end
section
open _root_.Go.Proofs.Tryz Go.RowKit
variable {l m:Bs} {s:ByteArray} {kind:Int} {cs:List CellB} {base k x:Nat} {v:Value} {w:World}
def zFW(a:k<=l.length)(hm:k<=m.length)(b:l.take k=m.take k)(h:k<l.length->k<m.length->l.getD k 0≠m.getD k 0):shr l m=k:=zFV a hm b h
def zvJ(a:k<l.length)(hm:k<m.length)(b:l.take k=m.take k)(h:l.getD k 0=m.getD k 0):l.take (k+1)=m.take (k+1):=by
 rw[BB a,BB hm,b];simp[List.getD,a,hm]at h;rw[h]
def zn1(s t:ByteArray)(l m:Bs)(w:World)(g:RdS s l)(j:RdS t m) :Calls prog 205 #[.string s,.string t] w fun e w'=>e=.returned (.int .i64 (shr l m:Nat))/\Lz w w':=by
 have r:=g.len;have u:=j.len;have b:=g.idx;have f:=j.idx;have Q:=g.small;have S:=j.small;have v:=h_ (Ac w.heap.size w);obtain⟨p,hp⟩:=nm_ l.length;obtain⟨q,z⟩:=nm_ m.length;rw[<-hp]at r Q b;rw[<-z]at u S f;have I:=h_ hp;have J:=h_ z;clear hp z g j;go_enter func205,ntmps205;go_wp2;go_loopw [5] (fun i wr=>∃k:Nat,k<=p/\k<=q/\i=.int .i64 k/\Hid (l.take k=m.take k)/\Hid (Lz w wr)) (fun i _=>p-(intOf i).toNat)
 case atStart=>exact⟨0,by omega,by omega,rfl,h_ rfl,v⟩
 obtain⟨k,N,O,rfl,T,A⟩:=hrel;clear v;have n:=h_ (fun h=>zFW (l:=l) (m:=m) (k:=k) (by rw[<-I.o];exact N) (by rw[<-J.o];exact O) T.o h);by_cases g:k<p
 .by_cases j:k<q
  .have G:=h_ (fun h=>zvJ (l:=l) (m:=m) (k:=k) (by rw[<-I.o];exact g) (by rw[<-J.o];exact j) T.o h);have U:=b k g;have V:=f k j;obtain⟨c,L⟩:∃c:Nat,at8 l k=(c:Int):=⟨(l.getD k 0).toNat,rfl⟩;obtain⟨d,M⟩:∃d:Nat,at8 m k=(d:Int):=⟨(m.getD k 0).toNat,rfl⟩;have x:(l.getD k 0).toNat=c:=(by unfold at8 at L;omega);have y:(m.getD k 0).toNat=d:=(by unfold at8 at M;omega);have C:=h_ x;have D:=h_ y;rw[L]at U;rw[M]at V;clear x y L M b f;by_cases E:c=d
   .have H:=h_ (G.o (UInt8.toNat_inj.1 (by rw[C.o,D.o,E])));subst E;clear n G C D;have z:((c:Int)==(c:Int))=true:=(by simp);go_wp2;go_quiet (fail);go_wp2;go_roundw
    case rel=>exact⟨k+1,by omega,by omega,by go_num,H,h_ (Go.below_drewN A.o _)⟩
    simp[intOf];omega
   have a:=h_ (n.o (fun _ _ h=>E (by rw[<-C.o,<-D.o,h])));have z:((c:Int)==(d:Int))=false:=(by simp;omega);clear n G C D E;go_wp2;go_quiet (fail);go_wp2;go_ret;exact⟨by rw[a.o];rfl,Go.below_drewN A.o _⟩
  have a:=h_ (n.o (fun _ h=>absurd (by rw[J.o];exact h) j));clear n b f;go_wp2;go_quiet (fail);go_wp2;go_ret;exact⟨by rw[a.o];rfl,Go.below_drewN A.o _⟩
 have a:=h_ (n.o (fun h _=>absurd (by rw[I.o];exact h) g));clear n b f;go_wp2;go_quiet (fail);go_wp2;go_ret;exact⟨by rw[a.o];rfl,Go.below_drewN A.o _⟩
/- -/
def ceL(c:CellB):Ce:=(c.1,c.2.data.toList)
def cesL(cs:List CellB):List Ce:=cs.map ceL
def za8(cs:List CellB):(cesL cs).length=cs.length:=by unfold cesL;rw[Ad]
def zlT(a:k<cs.length):(cesL cs).getD k default=ceL (cs.getD k default):=by
 unfold cesL;simp[List.getD,a]
def zd4(cs:List CellB)(k:Nat)(a:k<cs.length):(cesL cs).take (k+1)=(cesL cs).take k++[ceL (cs.getD k default)]:=by
 rw[zaH (by rw[za8];exact a) default,zlT a]
def zjM(a:CES cs){c:Ce}(h:c∈cesL cs):c.1<18446744073709551616:=by
 obtain⟨x,b,rfl⟩:=Au.1 h;exact(a x b).1
def zlD{l:List Ce}(h:errK kind (l.take k)≠0):errK kind l=errK kind (l.take k):=by
 have:=zgE kind (l.take k) (l.drop k);rw[A0,Ab h]at this;exact this
def zp8(b:k<cs.length)(a:errK kind ((cesL cs).take k)=0) :(checkC kind (cs.getD k default).1 (cs.getD k default).2.data.toList≠0->errK kind (cesL cs)=checkC kind (cs.getD k default).1 (cs.getD k default).2.data.toList) /\(checkC kind (cs.getD k default).1 (cs.getD k default).2.data.toList=0->errK kind ((cesL cs).take (k+1))=0):=by
 have c:=zd4 cs k b;have e:errK kind ((cesL cs).take (k+1))=checkC kind (cs.getD k default).1 (cs.getD k default).2.data.toList:=by
  rw[c,zgE,Aa (fun h=>h a),errK];split
  ·rfl
  rename_i hh;rw[errK];exact(Av hh).symm
 refine⟨fun h=>?_,fun h=>by rw[e];exact h⟩;rw[<-e];exact zlD (by rw[e];exact h)
def lstB(cs:List CellB)(k:Nat):CellB:=if k=0 then(0,⟨#[]⟩)else cs.getD (k-1) default
def zEI:∀{k:Nat},k<=cs.length->lst (0,[]) ((cesL cs).take k)=ceL (lstB cs k)
 | 0,_=>by rw[AU,lst,lstB,Ab rfl];rfl
 | k+1,h=>by rw[zd4 cs k (by omega),zoX,lstB,Aa (by omega),Bv]
def zj8{kind:Int}(a:kind≠2){cs:List CellB}{k:Nat}(b:k<cs.length):wrC kind ((cesL cs).take (k+1))=wrC kind ((cesL cs).take k)++pc kind k (ceL (lstB cs k)) (ceL (cs.getD k default)):=by
 unfold wrC;rw[Aa a,Aa a,zd4 cs k b,zo7,zEI (by omega),Aq,za8,A5,A7 (by omega)]
def zk2:∀a b,sumT (a++b)=sumT a+sumT b
 | [],b=>by simp[sumT]
 | c::r,b=>by rw[AQ,sumT,sumT,zk2 r b];omega
def zzS(l:List Ce)(k:Nat):sumT (l.take k)<=sumT l:=by
 have:=zk2 (l.take k) (l.drop k);rw[A0]at this;omega
def zeT(d:CES cs)(a:errK kind ((cesL cs).take k)=0):(wrC kind ((cesL cs).take k)).length<=10*cs.length+sumT (cesL cs):=by
 have f:=zjI a (fun c e=>zjM d (A9 e));have b:=zyV f;have g:=zzS (cesL cs) k;rw[Aq,za8]at b;omega
def zbV{g:Nat}{c:Array Value}{z:Nat×Nat}(h:Own w base v l)(a:w.heap[g]?=some (.cells c 65 z)):∀k,v.ownBlock=some k->k≠g:=by
 rcases h.2 with⟨rfl,_⟩|⟨q,cap,d,rfl,i,f,_⟩
 .intro k b;cases b
 intro k b;have e:q=k:=by injection b
 subst e;rintro rfl;rw[f]at a;injection a with a
 injection a with h1 h2
 exact absurd h2 (by decide)
def zB6(h:Own w base v l){i:Nat}(b:i<l.length):v.ownBlock=some (adr v i).block:=by
 rcases h.2 with⟨rfl,d⟩|⟨q,cap,a,rfl,c,f,_⟩
 .exact absurd b (by omega)
 have e:adr (.slice (some ⟨q,0,none⟩) l.length cap) i=⟨q,i,none⟩:=by
  simp only[adr,Addr.add];split<;>simp_all
 rw[e];rfl
def Own.grown9 {w':World}(h:Own w base v l){r:Option Nat}(f:w.grownBy w' r)(d:∀k,v.ownBlock=some k->some k≠r):Own w' base v l:=by
 refine⟨h.1,?_⟩;rcases h.2 with e|⟨g,cap,b,rfl,c,a,q⟩
 .exact .inl e
 refine .inr ⟨g,cap,b,rfl,c,?_,q⟩;rw[f.block g (Aj.1 a).1 (d g rfl)];exact a
def zBQ(a:CES cs)(b:k<=cs.length)(h:lstB cs k=(x,s)):s.size<=140737488351232:=by
 unfold lstB at h;split at h
 .injection h with h1 h2;subst h2;decide
 have:=(a.get (k:=k-1) (by omega)).2;rw[h]at this;exact this
def zpW(f:CES cs)(j:k<cs.length)(d:errK 2 ((cesL cs).take k)=0)(i:cs.getD k default=(x,s))(l:x<=1) :(k%8=0->wrC 2 ((cesL cs).take (k+1))=wrC 2 ((cesL cs).take k)++[UInt8.ofNat x]) /\(k%8≠0->∃a y,wrC 2 ((cesL cs).take k)=a++[y]/\y.toNat<2^(k%8)/\wrC 2 ((cesL cs).take (k+1))=a++[UInt8.ofNat (y.toNat+2^(k%8)*x)]):=by
 have h:=zjI d (fun c g=>zjM f (A9 g));have b:(((cesL cs).take k).map fun c:Ce=>c.1).length=k:=by rw[Ad,Aq,za8];omega
 have hp:=zn9 k (((cesL cs).take k).map fun c:Ce=>c.1) x (by rw[b];omega) (zw7 h).2 l;rw[b]at hp;have e:((cesL cs).take (k+1)).map (fun c:Ce=>c.1)=(((cesL cs).take k).map fun c:Ce=>c.1)++[x]:=by
  rw[zd4 cs k j,i,AC];rfl
 unfold wrC;rw[Ab rfl,Ab rfl,e];exact hp
def WrK(w:World)(kind:Int)(cs:List CellB)(e:Ending)(w':World):Prop :=
 ∃b,e=.returned (.tuple #[b,.int .i64 (wrE kind (cesL cs):Nat)])/\Own w' w.heap.size b (if wrE kind (cesL cs)=0 then wrC kind (cesL cs)else[])/\Lz w w'
def zqR(v:Value)(kind:Int)(cs:List CellB)(w:World)(hv:RdE w v cs)(hC:CES cs)(hk:0<=kind/\kind<=5)(h2:kind≠2)(h3:kind≠3)(h4:kind≠4)(hs:10*cs.length+sumT (cesL cs)<=1000000) :Calls prog 167 #[.int .i64 kind,v] w (WrK w kind cs):=by
 have q2:(kind==2)=false:=by rw[As];omega
 have q3:(kind==3)=false:=by rw[As];omega
 have q4:(kind==4)=false:=by rw[As];omega
 have aN:=hv.len;have bh:=hv.small;obtain⟨n,hn⟩:=nm_ cs.length;rw[<-hn]at aN bh;have HN:=h_ hn;have HV:=h_ hv;have HC:=h_ hC;have HS:=h_ hs;have d1:decide (kind<0)=false:=Af (by omega);have d2:decide (kind>5)=false:=Af (by omega);have HE:=h_ (show wrE kind (cesL cs)=errK kind (cesL cs) by unfold wrE;rw[Aa (by omega)]);have HK:=h_ hk;clear hv hC hs hn hk;have aH:Lz w (w.alloc (.cells #[.int .u64 0,.string ⟨#[]⟩] 65)):=(Ac _ _).alloc l_ _;have ax:=h_ aH;have ac:(w.alloc (.cells #[.int .u64 0,.string ⟨#[]⟩] 65)).heap[w.heap.size]?=some (.cells #[.int .u64 0,.string ⟨#[]⟩] 65 (0,0)):=AB w _;have aC:=h_ ac;have aQ:w.heap.size+1<=(w.alloc (.cells #[.int .u64 0,.string ⟨#[]⟩] 65)).heap.size:=by rw[Az];omega
 have aF:=h_ aQ;clear aH ac aQ;go_enter func167,ntmps167;go_wp2;go_loopw [6,8] (fun a i wr=>∃k:Nat,k<=n/\i=.int .i64 k/\Hid (Lz w wr)/\Hid (Own wr (w.heap.size+1) a (wrC kind ((cesL cs).take k)))/\Hid (errK kind ((cesL cs).take k)=0)/\Hid (wr.heap[w.heap.size]?=some (.cells #[.int .u64 ((lstB cs k).1:Int),.string (lstB cs k).2] 65 (0,0)))/\Hid (w.heap.size+1<=wr.heap.size)) (fun _ i _=>n-(intOf i).toNat)
 case atStart=>exact⟨0,by omega,rfl,ax,h_ (by rw[AU,show wrC kind []=[]from by unfold wrC;split;exact zaS;rfl];exact zaE _ _),h_ rfl,aC,aF⟩
 clear ax aC aF;obtain⟨k,hk,rfl,HB,HO,af,HR,HZ⟩:=hrel;by_cases aO:k<n
 .have kl:k<cs.length:=by rw[<-HN.o];exact aO
  have hr:=HV.later HB.o l_;obtain⟨b,o,aM,H,bt⟩:=hr.get kl;obtain⟨aa,ab⟩:=H _ hr;obtain⟨aJ,aK⟩:=zp8 kl af.o;have ad:=h_ aJ;have ae:=h_ aK;obtain⟨g1,g2⟩:=CES.get HC.o kl;have aB:=h_ (@zj8 kind);have aL:=zd4 cs k kl;have a0:=h_ aL;have al:=h_ (show lstB cs (k+1)=cs.getD k default from by unfold lstB;rw[Aa (by omega),Bv]);rcases hcg:cs.getD k default with⟨x,s⟩
  rw[hcg]at al;have j:=h_ H;rw[hcg]at aa ab ad ae g1 g2 a0 j;have ay:=h_ hcg;dsimp only at aa ab g1 g2;have hS:=zdA g2;obtain⟨t,ht⟩:=nm_ s.data.toList;have HT:=h_ ht;rw[<-ht]at hS;have a6:=h_ hS;rcases hlg:lstB cs k with⟨M,ps⟩
  rw[hlg]at HR;have aA:=h_ hlg;have CK:=h_ (fun wz=>zdP kind x s t wz a6.o (by have:=HK.o;omega) g1);obtain⟨y,hy⟩:=nm_ (checkC kind x t);have HY:=h_ hy;rw[<-hy]at CK;clear hr H aJ aK aL hcg hS ht hlg g2 hy;go_wp2_with fail;refine(CK.o _).mono ?_;rintro e w4⟨rfl,r⟩;have bl:wr.heap.size<=w4.heap.size:=r.size;have A:=bT HB r;have ag:=h_ (HO.later r l_);have ah:=h_ ((r.block w.heap.size (by have:=HZ.o;omega)).trans HR.o);have I:=h_ (show w.heap.size+1<=w4.heap.size by have:=HZ.o;omega);obtain⟨aa,ab⟩:=j.o w4 (HV.later A.o l_)
  try dsimp only at aa ab
  clear r bl CK HB HO HR HZ;by_cases ai:y=0
  .have bk:((y:Int)!=0)=false:=(by rw[bne_eq_false_iff_eq];omega);have az:=h_ (ae.o (by rw[<-HT.o,<-HY.o];exact ai));have aj:Fit kind (x,t):=⟨by rw[<-HY.o];exact ai,g1⟩;have HF:=h_ aj;clear aj ad ae;have aG:¬(kind=3\/kind=4):=(by omega);by_cases aq:k=0/\kind≠0
   .obtain⟨rfl,h0⟩:=aq;have q0:(kind !=0)=true:=(by rw[Ao];exact h0);have a2:=h_ h0;rw[show((0:Nat):Int)=0 from rfl]at aM;have g:=h_ (zeT HC.o af.o);have g:=h_ (show(wrC kind ((cesL cs).take 0)).length<=1000000 by have:=g.o;have:=HS.o;omega);have N:=h_ (show Lz w (w4.alloc (.cells #[.int .u64 (x:Int),.string s] 65))from A.alloc A.size _);have T:=h_ (show Own (w4.alloc (.cells #[.int .u64 (x:Int),.string s] 65)) (w.heap.size+1) u6 (wrC kind ((cesL cs).take 0))from ag.alloc _);have p:=h_ (show(w4.alloc (.cells #[.int .u64 (x:Int),.string s] 65)).heap[w.heap.size]?=some (.cells #[.int .u64 (M:Int),.string ps] 65 (0,0))from(AS _ _ _ (by have:=I.o;omega)).trans ah.o);have V:=h_ (show(w4.alloc (.cells #[.int .u64 (x:Int),.string s] 65)).heap[w4.heap.size]?=some (.cells #[.int .u64 (x:Int),.string s] 65 (0,0))from AB _ _);have l:=h_ (show w.heap.size<w4.heap.size/\w4.heap.size<(w4.alloc (.cells #[.int .u64 (x:Int),.string s] 65)).heap.size by rw[Az];have:=I.o;omega);have be:(w4.alloc (.cells #[.int .u64 (x:Int),.string s] 65)).cell? ⟨w.heap.size,0,none⟩=some (.int .u64 (M:Int)):=(by rw[Ag _ _ _ _ _ _ p.o];rfl);have bf:(w4.alloc (.cells #[.int .u64 (x:Int),.string s] 65)).cell? ⟨w.heap.size,1,none⟩=some (.string ps):=(by rw[Ag _ _ _ _ _ _ p.o];rfl);have an:=h_ (show pc kind 0 (ceL (M,ps)) (ceL (x,s))=pc kind 0 (M,ps.data.toList) (x,t) by unfold ceL;rw[HT.o]);clear A ag ah I j;go_wp2_with fail;generalize (w4.alloc (.cells #[.int .u64 (x:Int),.string s] 65))=w6 at *;generalize w4.heap.size=gp at *;refine(zd9 (x:Int) (by omega) (by omega) _).mono ?_;rintro e w7⟨yv,rfl,L,r⟩;rw[Aw]at L;have O:=bT N r;have m:=h_ (T.later r l_);have G:=h_ ((r.block w.heap.size (by have:=l.o;omega)).trans p.o);have D:=h_ ((r.block gp (by have:=l.o;omega)).trans V.o);have f:=h_ (show w.heap.size<gp/\gp<w7.heap.size by have:=l.o;have:=r.size;omega);have hY:=L.rd (by have:=zaA x (by omega);omega);have X:=h_ hY;clear r L hY N T p V l;go_wp2_with (with_reducible refine wpl_append (w.heap.size+1) _ _ ?hs m.o _ (encU x) ?hx X.o ?hn ?hbase w.heap.size w O.o (by omega) ?_)
    case hs=>rfl
    case hx=>rfl
    case hn=>have:=g.o;have:=zaA x (by omega);omega
    case hbase=>have:=f.o;omega
    intro v8 d Z Y u;have Q:=h_ Y;have U:=h_ Z;have c:=h_ ((u.block w.heap.size (by have:=f.o;omega) (fun e=>zbV m.o G.o _ e.symm rfl)).trans G.o);have E:=h_ ((u.block gp (by have:=f.o;omega) (fun e=>zbV m.o D.o _ e.symm rfl)).trans D.o);have S:=h_ (show w.heap.size<gp/\gp<d.heap.size by have:=f.o;have:=u.size;omega);clear Z Y u m O G D f X;have C:=h_ (show Own d (w.heap.size+1) v8 (wrC kind ((cesL cs).take (0+1)))from by rw[aB.o (by omega) kl,aA.o,ay.o,an.o,zgY aG a2.o];exact U.o);have e0:d.cell? ⟨gp,0,none⟩=some (.int .u64 (x:Int)):=(by rw[Ag _ _ _ _ _ _ E.o];rfl);have e1:d.cell? ⟨gp,1,none⟩=some (.string s):=(by rw[Ag _ _ _ _ _ _ E.o];rfl);have f0:d.frozen? ⟨w.heap.size,0,none⟩=false:=At _ _ _ _ _ c.o;have f1:(d.setCell ⟨w.heap.size,0,none⟩ (.int .u64 (x:Int))).frozen? ⟨w.heap.size,1,none⟩=false:=At _ _ _ _ _ (block_setCell c.o _);have c0:d.cell? ⟨w.heap.size,0,none⟩=some (.int .u64 (M:Int)):=(by rw[Ag _ _ _ _ _ _ c.o];rfl);have c1:(d.setCell ⟨w.heap.size,0,none⟩ (.int .u64 (x:Int))).cell? ⟨w.heap.size,1,none⟩=some (.string ps):=(by rw[Ag _ _ _ _ _ _ (block_setCell c.o _)];rfl);have ak:=h_ (show Lz w ((d.setCell ⟨w.heap.size,0,none⟩ (.int .u64 (x:Int))).setCell ⟨w.heap.size,1,none⟩ (.string s))from(Q.setCell l_ _).setCell l_ _);have am:=h_ (show Own ((d.setCell ⟨w.heap.size,0,none⟩ (.int .u64 (x:Int))).setCell ⟨w.heap.size,1,none⟩ (.string s)) (w.heap.size+1) v8 (wrC kind ((cesL cs).take (0+1)))from C.grown9 (za0 (za0 (World.grownBy.refl _ _) _) _) (fun q e9 e8=>zbV C.o c.o q e9 (by injection e8)));have ao:=h_ (show((d.setCell ⟨w.heap.size,0,none⟩ (.int .u64 (x:Int))).setCell ⟨w.heap.size,1,none⟩ (.string s)).heap[w.heap.size]?=some (.cells #[.int .u64 ((lstB cs (0+1)).1:Int),.string (lstB cs (0+1)).2] 65 (0,0)) by rw[al.o];exact block_setCell (block_setCell c.o _) _);have ap:=h_ (show w.heap.size+1<=((d.setCell ⟨w.heap.size,0,none⟩ (.int .u64 (x:Int))).setCell ⟨w.heap.size,1,none⟩ (.string s)).heap.size by rw[Bb,Bb];have:=S.o;omega);clear C U Q c E S;go_wp2;go_roundw
    case rel=>exact⟨0+1,by omega,by go_num,ak,am,az,ao,ap⟩
    simp[intOf];omega
   have hz:((k:Int)==0)=false\/(((k:Int)==0)=true/\(kind !=0)=false):=by
    rcases C6 k with h|h
    .right;subst h;exact⟨by simp,by rw[bne_eq_false_iff_eq];exact Decidable.byContradiction fun h=>aq ⟨rfl,h⟩⟩
    left;rw[As];omega
   have a1:=h_ aq;rcases hz with e0|⟨e0,q0⟩
   all_goals
    have g:=h_ (zeT HC.o af.o);have g:=h_ (show(wrC kind ((cesL cs).take k)).length<=1000000 by have:=g.o;have:=HS.o;omega);have N:=h_ (show Lz w (w4.alloc (.cells #[.int .u64 (x:Int),.string s] 65))from A.alloc A.size _);have T:=h_ (show Own (w4.alloc (.cells #[.int .u64 (x:Int),.string s] 65)) (w.heap.size+1) u6 (wrC kind ((cesL cs).take k))from ag.alloc _);have p:=h_ (show(w4.alloc (.cells #[.int .u64 (x:Int),.string s] 65)).heap[w.heap.size]?=some (.cells #[.int .u64 (M:Int),.string ps] 65 (0,0))from(AS _ _ _ (by have:=I.o;omega)).trans ah.o);have V:=h_ (show(w4.alloc (.cells #[.int .u64 (x:Int),.string s] 65)).heap[w4.heap.size]?=some (.cells #[.int .u64 (x:Int),.string s] 65 (0,0))from AB _ _);have l:=h_ (show w.heap.size<w4.heap.size/\w4.heap.size<(w4.alloc (.cells #[.int .u64 (x:Int),.string s] 65)).heap.size by rw[Az];have:=I.o;omega);have be:(w4.alloc (.cells #[.int .u64 (x:Int),.string s] 65)).cell? ⟨w.heap.size,0,none⟩=some (.int .u64 (M:Int)):=(by rw[Ag _ _ _ _ _ _ p.o];rfl);have bf:(w4.alloc (.cells #[.int .u64 (x:Int),.string s] 65)).cell? ⟨w.heap.size,1,none⟩=some (.string ps):=(by rw[Ag _ _ _ _ _ _ p.o];rfl);have an:=h_ (show pc kind k (ceL (M,ps)) (ceL (x,s))=pc kind k (M,ps.data.toList) (x,t) by unfold ceL;rw[HT.o]);clear A ag ah I j;obtain⟨z,hz⟩:=nm_ (wrap64 (IntKind.u64.wrap ((x:Int)-M)));have au:z=wrap64 ((x:Int)-M):=(by rw[hz,IntKind.wrap_u64];unfold wrap64;omega);have aD:=h_ (show stepZ M x=zig z by unfold stepZ;rw[au]);have aR:-9223372036854775808<=z/\z<=9223372036854775807:=(by rw[au];unfold wrap64;omega);have J:=h_ aR;have a7:=h_ hz.symm;clear au aR hz;go_wp2_with fail;rw[a7.o];generalize (w4.alloc (.cells #[.int .u64 (x:Int),.string s] 65))=w6 at *;generalize w4.heap.size=gp at *;refine(zAF z (J.o).1 (J.o).2 _).mono ?_;rintro e w7⟨yv,rfl,L,r⟩;have O:=bT N r;have m:=h_ (T.later r l_);have G:=h_ ((r.block w.heap.size (by have:=l.o;omega)).trans p.o);have D:=h_ ((r.block gp (by have:=l.o;omega)).trans V.o);have f:=h_ (show w.heap.size<gp/\gp<w7.heap.size by have:=l.o;have:=r.size;omega);have hY:=L.rd (by have:=zaA (zig z) (zeS z (J.o).1 (J.o).2);omega);have X:=h_ hY;clear r L hY N T p V l;go_wp2_with (with_reducible refine wpl_append (w.heap.size+1) _ _ ?hs m.o _ (encU (zig z)) ?hx X.o ?hn ?hbase w.heap.size w O.o (by omega) ?_)
    case hs=>rfl
    case hx=>rfl
    case hn=>have:=g.o;have:=zaA (zig z) (zeS z (J.o).1 (J.o).2);omega
    case hbase=>have:=f.o;omega
    intro v8 d Z Y u;have Q:=h_ Y;have U:=h_ Z;have c:=h_ ((u.block w.heap.size (by have:=f.o;omega) (fun e=>zbV m.o G.o _ e.symm rfl)).trans G.o);have E:=h_ ((u.block gp (by have:=f.o;omega) (fun e=>zbV m.o D.o _ e.symm rfl)).trans D.o);have S:=h_ (show w.heap.size<gp/\gp<d.heap.size by have:=f.o;have:=u.size;omega);clear Z Y u m O G D f X;have C:=h_ (show Own d (w.heap.size+1) v8 (wrC kind ((cesL cs).take (k+1)))from by rw[aB.o (by omega) kl,aA.o,ay.o,an.o,zkO aG (fun h=>a1.o h),aD.o];exact U.o);have e0:d.cell? ⟨gp,0,none⟩=some (.int .u64 (x:Int)):=(by rw[Ag _ _ _ _ _ _ E.o];rfl);have e1:d.cell? ⟨gp,1,none⟩=some (.string s):=(by rw[Ag _ _ _ _ _ _ E.o];rfl);have f0:d.frozen? ⟨w.heap.size,0,none⟩=false:=At _ _ _ _ _ c.o;have f1:(d.setCell ⟨w.heap.size,0,none⟩ (.int .u64 (x:Int))).frozen? ⟨w.heap.size,1,none⟩=false:=At _ _ _ _ _ (block_setCell c.o _);have c0:d.cell? ⟨w.heap.size,0,none⟩=some (.int .u64 (M:Int)):=(by rw[Ag _ _ _ _ _ _ c.o];rfl);have c1:(d.setCell ⟨w.heap.size,0,none⟩ (.int .u64 (x:Int))).cell? ⟨w.heap.size,1,none⟩=some (.string ps):=(by rw[Ag _ _ _ _ _ _ (block_setCell c.o _)];rfl);have ak:=h_ (show Lz w ((d.setCell ⟨w.heap.size,0,none⟩ (.int .u64 (x:Int))).setCell ⟨w.heap.size,1,none⟩ (.string s))from(Q.setCell l_ _).setCell l_ _);have am:=h_ (show Own ((d.setCell ⟨w.heap.size,0,none⟩ (.int .u64 (x:Int))).setCell ⟨w.heap.size,1,none⟩ (.string s)) (w.heap.size+1) v8 (wrC kind ((cesL cs).take (k+1)))from C.grown9 (za0 (za0 (World.grownBy.refl _ _) _) _) (fun q e9 e8=>zbV C.o c.o q e9 (by injection e8)));have ao:=h_ (show((d.setCell ⟨w.heap.size,0,none⟩ (.int .u64 (x:Int))).setCell ⟨w.heap.size,1,none⟩ (.string s)).heap[w.heap.size]?=some (.cells #[.int .u64 ((lstB cs (k+1)).1:Int),.string (lstB cs (k+1)).2] 65 (0,0)) by rw[al.o];exact block_setCell (block_setCell c.o _) _);have ap:=h_ (show w.heap.size+1<=((d.setCell ⟨w.heap.size,0,none⟩ (.int .u64 (x:Int))).setCell ⟨w.heap.size,1,none⟩ (.string s)).heap.size by rw[Bb,Bb];have:=S.o;omega);clear C U Q c E S;go_wp2;go_roundw
    case rel=>exact⟨k+1,by omega,by go_num,ak,am,az,ao,ap⟩
    simp[intOf];omega
  have bk:((y:Int)!=0)=true:=by rw[Ao];omega
  have HF:=h_ (show wrE kind (cesL cs)=y from by rw[HE.o,ad.o (by rw[<-HT.o,<-HY.o];exact ai)];rw[<-HT.o,<-HY.o]);clear ad ae aa ab;go_wp2;go_ret2;exact⟨_,by rw[HF.o];rfl,by rw[HF.o,Aa ai];exact zaE _ _,A.o⟩
 obtain rfl:k=n:=by omega
 have ar:(cesL cs).take k=cesL cs:=Am (by rw[za8,<-HN.o];exact l_);have HF:=h_ (show wrE kind (cesL cs)=0 from by rw[HE.o,<-ar];exact af.o);have a4:=h_ (show Own wr w.heap.size u6 (wrC kind (cesL cs)) by have:=HO.o;rw[ar]at this;exact this.base (by omega));clear ar aO;go_wp2;go_ret2;exact⟨_,by rw[HF.o];rfl,by rw[HF.o,Ab rfl];exact a4.o,HB.o⟩
def zqP(q:Int)(aQ:q=3\/q=4)(v:Value)(cs:List CellB)(w:World)(hv:RdE w v cs)(hC:CES cs)(hk:0<=q/\q<=5)(hs:10*cs.length+sumT (cesL cs)<=1000000) :Calls prog 167 #[.int .i64 q,v] w (WrK w q cs):=by
 have HQ:=h_ aQ;have q2:(q==2)=false:=by rw[As];omega
 have a0:=hv.len;have bF:=hv.small;obtain⟨n,hn⟩:=nm_ cs.length;rw[<-hn]at a0 bF;have HN:=h_ hn;have HV:=h_ hv;have HC:=h_ hC;have HS:=h_ hs;have d1:decide (q<0)=false:=Af (by omega);have d2:decide (q>5)=false:=Af (by omega);have HE:=h_ (show wrE q (cesL cs)=errK q (cesL cs) by unfold wrE;rw[Aa (by omega)]);have HK:=h_ hk;clear hv hC hs hn hk aQ;have aR:Lz w (w.alloc (.cells #[.int .u64 0,.string ⟨#[]⟩] 65)):=(Ac _ _).alloc l_ _;have aw:=h_ aR;have I:(w.alloc (.cells #[.int .u64 0,.string ⟨#[]⟩] 65)).heap[w.heap.size]?=some (.cells #[.int .u64 0,.string ⟨#[]⟩] 65 (0,0)):=AB w _;have aK:=h_ I;have a4:w.heap.size+1<=(w.alloc (.cells #[.int .u64 0,.string ⟨#[]⟩] 65)).heap.size:=by rw[Az];omega
 have aP:=h_ a4;clear aR I a4;go_enter func167,ntmps167;go_wp2;go_loopw [6,8] (fun a i wr=>∃k:Nat,k<=n/\i=.int .i64 k/\Hid (Lz w wr)/\Hid (Own wr (w.heap.size+1) a (wrC q ((cesL cs).take k)))/\Hid (errK q ((cesL cs).take k)=0)/\Hid (wr.heap[w.heap.size]?=some (.cells #[.int .u64 ((lstB cs k).1:Int),.string (lstB cs k).2] 65 (0,0)))/\Hid (w.heap.size+1<=wr.heap.size)) (fun _ i _=>n-(intOf i).toNat)
 case atStart=>exact⟨0,by omega,rfl,aw,h_ (by rw[AU,show wrC q []=[]from by unfold wrC;split;exact zaS;rfl];exact zaE _ _),h_ rfl,aK,aP⟩
 clear aw aK aP;obtain⟨k,hk,rfl,HB,HO,am,HR,HZ⟩:=hrel;by_cases a1:k<n
 .have kl:k<cs.length:=by rw[<-HN.o];exact a1
  have hr:=HV.later HB.o l_;obtain⟨b,o,bU,j,bS⟩:=hr.get kl;obtain⟨G,H⟩:=j _ hr;obtain⟨aW,aX⟩:=zp8 kl am.o;have J:=h_ aW;have L:=h_ aX;obtain⟨g1,g2⟩:=CES.get HC.o kl;have bm:=h_ (@zj8 q);have aY:=zd4 cs k kl;have bj:=h_ aY;have aC:=h_ (show lstB cs (k+1)=cs.getD k default from by unfold lstB;rw[Aa (by omega),Bv]);rcases hcg:cs.getD k default with⟨x,s⟩
  rw[hcg]at aC;have h:=h_ j;rw[hcg]at G H J L g1 g2 bj h;have bi:=h_ hcg;dsimp only at G H g1 g2;have hS:=zdA g2;obtain⟨t,ht⟩:=nm_ s.data.toList;have HT:=h_ ht;rw[<-ht]at hS;have U:=h_ hS;rcases hlg:lstB cs k with⟨px,ps⟩
  rw[hlg]at HR;have aB:=h_ hlg;have CK:=h_ (fun wz=>zdP q x s t wz U.o (by have:=HK.o;omega) g1);obtain⟨y,hy⟩:=nm_ (checkC q x t);have HY:=h_ hy;rw[<-hy]at CK;clear hr j aW aX aY hcg hS ht hlg g2 hy;go_wp2_with fail;refine(CK.o _).mono ?_;rintro e w4⟨rfl,c⟩;have bK:wr.heap.size<=w4.heap.size:=c.size;have z:=bT HB c;have aD:=h_ (HO.later c l_);have aL:=h_ ((c.block w.heap.size (by have:=HZ.o;omega)).trans HR.o);have aq:=h_ (show w.heap.size+1<=w4.heap.size by have:=HZ.o;omega);obtain⟨G,H⟩:=h.o w4 (HV.later z.o l_)
  try dsimp only at G H
  clear c bK CK HB HO HR HZ;by_cases X:y=0
  .have bJ:((y:Int)!=0)=false:=(by rw[bne_eq_false_iff_eq];omega);have bk:=h_ (L.o (by rw[<-HT.o,<-HY.o];exact X));have ak:Fit q (x,t):=⟨by rw[<-HY.o];exact X,g1⟩;have HF:=h_ ak;clear ak J L;have m:=h_ (zeT HC.o am.o);have m:=h_ (show(wrC q ((cesL cs).take k)).length<=1000000 by have:=m.o;have:=HS.o;omega);have ax:=h_ (show Lz w (w4.alloc (.cells #[.int .u64 (x:Int),.string s] 65))from z.alloc z.size _);have aE:=h_ (show Own (w4.alloc (.cells #[.int .u64 (x:Int),.string s] 65)) (w.heap.size+1) u6 (wrC q ((cesL cs).take k))from aD.alloc _);have T:=h_ (show(w4.alloc (.cells #[.int .u64 (x:Int),.string s] 65)).heap[w.heap.size]?=some (.cells #[.int .u64 (px:Int),.string ps] 65 (0,0))from(AS _ _ _ (by have:=aq.o;omega)).trans aL.o);have aI:=h_ (show(w4.alloc (.cells #[.int .u64 (x:Int),.string s] 65)).heap[w4.heap.size]?=some (.cells #[.int .u64 (x:Int),.string s] 65 (0,0))from AB _ _);have M:=h_ (show w.heap.size<w4.heap.size/\w4.heap.size<(w4.alloc (.cells #[.int .u64 (x:Int),.string s] 65)).heap.size by rw[Az];have:=aq.o;omega);have b3:(w4.alloc (.cells #[.int .u64 (x:Int),.string s] 65)).cell? ⟨w.heap.size,0,none⟩=some (.int .u64 (px:Int)):=(by rw[Ag _ _ _ _ _ _ T.o];rfl);have b4:(w4.alloc (.cells #[.int .u64 (x:Int),.string s] 65)).cell? ⟨w.heap.size,1,none⟩=some (.string ps):=(by rw[Ag _ _ _ _ _ _ T.o];rfl);have aG:=h_ (show pc q k (ceL (px,ps)) (ceL (x,s))=pc q k (px,ps.data.toList) (x,t) by unfold ceL;rw[HT.o]);clear z aD aL aq h;have hz:(q==3)=true\/((q==3)=false/\(q==4)=true):=by rcases HQ.o with rfl|rfl;exact .inl rfl;exact .inr ⟨rfl,rfl⟩
   rcases hz with e3|⟨e3,e4⟩
   all_goals
    have aH:=h_ (zdA (zBQ HC.o (show k<=cs.length by omega) aB.o));obtain⟨pl,a2⟩:=nm_ ps.data.toList;rw[<-a2]at aH aG;have b2:=(HF.text HQ.o).2.1;have bG:s.size=t.length:=U.size9;clear a2;go_wp2_with fail;generalize (w4.alloc (.cells #[.int .u64 (x:Int),.string s] 65))=w6 at *;generalize w4.heap.size=gp at *;refine(zn1 ps s pl t _ aH.o U.o).mono ?_;rintro e bM⟨rfl,c⟩;have aa:=bT ax c;have ad:=h_ (aE.later c l_);have af:=h_ ((c.block w.heap.size (by have:=M.o;omega)).trans T.o);have ae:=h_ ((c.block gp (by have:=M.o;omega)).trans aI.o);have l:=h_ (show w.heap.size<gp/\gp<bM.heap.size by have:=M.o;have:=c.size;omega);clear c ax aE T aI M;obtain⟨bz,bA⟩:=zqF pl t;obtain⟨N,hN⟩:=nm_ (shr pl t);rw[<-hN]at bz bA ⊢;have bl:=h_ hN;have av:=h_ (zaA N (by omega));clear hN;go_wp2_with fail;refine(zd9 (N:Int) (by omega) (by omega) _).mono ?_;rintro e w7⟨yv,rfl,ar,c⟩;rw[Aw]at ar;have ay:=bT aa c;have S:=h_ (ad.later c l_);have ap:=h_ ((c.block w.heap.size (by have:=l.o;omega)).trans af.o);have an:=h_ ((c.block gp (by have:=l.o;omega)).trans ae.o);have A:=h_ (show w.heap.size<gp/\gp<w7.heap.size by have:=l.o;have:=c.size;omega);have hY:=ar.rd (by have:=av.o;omega);have aO:=h_ hY;clear c ar hY aa ad af ae l;go_wp2_with (with_reducible refine wpl_append (w.heap.size+1) _ _ ?hs S.o _ (encU N) ?hx aO.o ?hn ?hbase w.heap.size w ay.o (by omega) ?_)
    case hs=>rfl
    case hx=>rfl
    case hn=>have:=m.o;have:=av.o;omega
    case hbase=>have:=A.o;omega
    intro v8 w8 aT aS V;have az:=h_ aS;have aF:=h_ aT;have aM:=h_ ((V.block w.heap.size (by have:=A.o;omega) (fun e=>zbV S.o ap.o _ e.symm rfl)).trans ap.o);have ao:=h_ ((V.block gp (by have:=A.o;omega) (fun e=>zbV S.o an.o _ e.symm rfl)).trans an.o);have O:=h_ (show w.heap.size<gp/\gp<w8.heap.size by have:=A.o;have:=V.size;omega);clear aT aS V S ay ap an A aO;have e1:w8.cell? ⟨gp,1,none⟩=some (.string s):=(by rw[Ag _ _ _ _ _ _ ao.o];rfl);have bt:=h_ (U.dropS N);obtain⟨bv,w9,a3,aU,c⟩:=zdE bt.o w8;rw[bG]at a3;have aA:=bT az c;have u:=h_ (aF.later c l_);have aN:=h_ ((c.block w.heap.size (by have:=O.o;omega)).trans aM.o);have aJ:=h_ ((c.block gp (by have:=O.o;omega)).trans ao.o);have Q:=h_ (show w.heap.size<gp/\gp<w9.heap.size by have:=O.o;have:=c.size;omega);clear c az aF aM ao O;have br:=h_ aU;have bD:(t.drop N).length<=256:=(by rw[Ay];omega);have aZ:=h_ (show(encB (t.drop N)).length<=10+256 by rw[zbG];have:=zaA (t.drop N).length (by omega);omega);clear aU bD;go_wp2_with fail;refine(zkH bv (t.drop N) w9 br.o).mono ?_;rintro e bL⟨y2,rfl,ai,c⟩;have Y:=bT aA c;have p:=h_ (u.later c l_);have E:=h_ ((c.block w.heap.size (by have:=Q.o;omega)).trans aN.o);have C:=h_ ((c.block gp (by have:=Q.o;omega)).trans aJ.o);have g:=h_ (show w.heap.size<gp/\gp<bL.heap.size by have:=Q.o;have:=c.size;omega);have hY:=ai.rd (by have:=aZ.o;omega);have ag:=h_ hY;clear c ai hY aA u aN aJ Q;go_wp2_with (with_reducible refine wpl_append (w.heap.size+1) _ _ ?hs p.o _ (encB (t.drop N)) ?hx ag.o ?hn ?hbase w.heap.size w Y.o (by omega) ?_)
    case hs=>rfl
    case hx=>rfl
    case hn=>have:=m.o;have:=aZ.o;rw[Ae];have:=av.o;omega
    case hbase=>have:=g.o;omega
    intro a7 d aj ah r;have Z:=h_ ah;have ac:=h_ aj;have f:=h_ ((r.block w.heap.size (by have:=g.o;omega) (fun e=>zbV p.o E.o _ e.symm rfl)).trans E.o);have D:=h_ ((r.block gp (by have:=g.o;omega) (fun e=>zbV p.o C.o _ e.symm rfl)).trans C.o);have ab:=h_ (show w.heap.size<gp/\gp<d.heap.size by have:=g.o;have:=r.size;omega);clear aj ah r p Y E C g ag;have u:=h_ (show Own d (w.heap.size+1) a7 (wrC q ((cesL cs).take (k+1)))from by rw[bm.o (by have:=HQ.o;omega) kl,aB.o,bi.o,aG.o,zkN HQ.o,<-An];dsimp only;rw[<-bl.o];exact ac.o);have e0:d.cell? ⟨gp,0,none⟩=some (.int .u64 (x:Int)):=(by rw[Ag _ _ _ _ _ _ D.o];rfl);have e1:d.cell? ⟨gp,1,none⟩=some (.string s):=(by rw[Ag _ _ _ _ _ _ D.o];rfl);have f0:d.frozen? ⟨w.heap.size,0,none⟩=false:=At _ _ _ _ _ f.o;have f1:(d.setCell ⟨w.heap.size,0,none⟩ (.int .u64 (x:Int))).frozen? ⟨w.heap.size,1,none⟩=false:=At _ _ _ _ _ (block_setCell f.o _);have c0:d.cell? ⟨w.heap.size,0,none⟩=some (.int .u64 (px:Int)):=(by rw[Ag _ _ _ _ _ _ f.o];rfl);have c1:(d.setCell ⟨w.heap.size,0,none⟩ (.int .u64 (x:Int))).cell? ⟨w.heap.size,1,none⟩=some (.string ps):=(by rw[Ag _ _ _ _ _ _ (block_setCell f.o _)];rfl);have bg:=h_ (show Lz w ((d.setCell ⟨w.heap.size,0,none⟩ (.int .u64 (x:Int))).setCell ⟨w.heap.size,1,none⟩ (.string s))from(Z.setCell l_ _).setCell l_ _);have bp:=h_ (show Own ((d.setCell ⟨w.heap.size,0,none⟩ (.int .u64 (x:Int))).setCell ⟨w.heap.size,1,none⟩ (.string s)) (w.heap.size+1) a7 (wrC q ((cesL cs).take (k+1)))from u.grown9 (za0 (za0 (World.grownBy.refl _ _) _) _) (fun q e9 e8=>zbV u.o f.o q e9 (by injection e8)));have bs:=h_ (show((d.setCell ⟨w.heap.size,0,none⟩ (.int .u64 (x:Int))).setCell ⟨w.heap.size,1,none⟩ (.string s)).heap[w.heap.size]?=some (.cells #[.int .u64 ((lstB cs (k+1)).1:Int),.string (lstB cs (k+1)).2] 65 (0,0)) by rw[aC.o];exact block_setCell (block_setCell f.o _) _);have bw:=h_ (show w.heap.size+1<=((d.setCell ⟨w.heap.size,0,none⟩ (.int .u64 (x:Int))).setCell ⟨w.heap.size,1,none⟩ (.string s)).heap.size by rw[Bb,Bb];have:=ab.o;omega);clear u ac Z f D ab;go_wp2;go_roundw
    case rel=>exact⟨k+1,by omega,by go_num,bg,bp,bk,bs,bw⟩
    simp[intOf];omega
  have bJ:((y:Int)!=0)=true:=by rw[Ao];omega
  have HF:=h_ (show wrE q (cesL cs)=y from by rw[HE.o,J.o (by rw[<-HT.o,<-HY.o];exact X)];rw[<-HT.o,<-HY.o]);clear J L G H;go_wp2;go_ret2;exact⟨_,by rw[HF.o];rfl,by rw[HF.o,Aa X];exact zaE _ _,z.o⟩
 obtain rfl:k=n:=by omega
 have au:(cesL cs).take k=cesL cs:=Am (by rw[za8,<-HN.o];exact l_);have HF:=h_ (show wrE q (cesL cs)=0 from by rw[HE.o,<-au];exact am.o);have bo:=h_ (show Own wr w.heap.size u6 (wrC q (cesL cs)) by have:=HO.o;rw[au]at this;exact this.base (by omega));clear au a1;go_wp2;go_ret2;exact⟨_,by rw[HF.o];rfl,by rw[HF.o,Ab rfl];exact bo.o,HB.o⟩
def zqQ(v:Value)(cs:List CellB)(w:World)(hv:RdE w v cs)(hC:CES cs)(hk:0<=(2:Int)/\(2:Int)<=5)(hs:10*cs.length+sumT (cesL cs)<=1000000) :Calls prog 167 #[.int .i64 2,v] w (WrK w (2:Int) cs):=by
 have bk:=hv.len;have bS:=hv.small;obtain⟨n,hn⟩:=nm_ cs.length;rw[<-hn]at bk bS;have HN:=h_ hn;have HV:=h_ hv;have HC:=h_ hC;have HS:=h_ hs;have d1:decide ((2:Int)<0)=false:=Af (by omega);have d2:decide ((2:Int)>5)=false:=Af (by omega);have HE:=h_ (show wrE (2:Int) (cesL cs)=errK (2:Int) (cesL cs) by unfold wrE;rw[Aa (by omega)]);have HK:=h_ hk;clear hv hC hs hn hk;have a9:Lz w (w.alloc (.cells #[.int .u64 0,.string ⟨#[]⟩] 65)):=(Ac _ _).alloc l_ _;have a2:=h_ a9;have an:(w.alloc (.cells #[.int .u64 0,.string ⟨#[]⟩] 65)).heap[w.heap.size]?=some (.cells #[.int .u64 0,.string ⟨#[]⟩] 65 (0,0)):=AB w _;have a5:=h_ an;have bn:w.heap.size+1<=(w.alloc (.cells #[.int .u64 0,.string ⟨#[]⟩] 65)).heap.size:=by rw[Az];omega
 have a7:=h_ bn;clear a9 an bn;go_enter func167,ntmps167;go_wp2;go_loopw [6,8] (fun a i wr=>∃k:Nat,k<=n/\i=.int .i64 k/\Hid (Lz w wr)/\Hid (Own wr (w.heap.size+1) a (wrC (2:Int) ((cesL cs).take k)))/\Hid (errK (2:Int) ((cesL cs).take k)=0)/\Hid (wr.heap[w.heap.size]?=some (.cells #[.int .u64 ((lstB cs k).1:Int),.string (lstB cs k).2] 65 (0,0)))/\Hid (w.heap.size+1<=wr.heap.size)) (fun _ i _=>n-(intOf i).toNat)
 case atStart=>exact⟨0,by omega,rfl,a2,h_ (by rw[AU,show wrC (2:Int) []=[]from by unfold wrC;split;exact zaS;rfl];exact zaE _ _),h_ rfl,a5,a7⟩
 clear a2 a5 a7;obtain⟨k,hk,rfl,HB,HO,av,HR,HZ⟩:=hrel;by_cases bl:k<n
 .have kl:k<cs.length:=by rw[<-HN.o];exact bl
  have hr:=HV.later HB.o l_;obtain⟨b,o,b4,N,b3⟩:=hr.get kl;obtain⟨ah,ai⟩:=N _ hr;obtain⟨bc,bd⟩:=zp8 kl av.o;have aq:=h_ bc;have ar:=h_ bd;obtain⟨g1,g2⟩:=CES.get HC.o kl;have b7:=h_ (@zj8 (2:Int));have bf:=zd4 cs k kl;have bB:=h_ bf;have aI:=h_ (show lstB cs (k+1)=cs.getD k default from by unfold lstB;rw[Aa (by omega),Bv]);rcases hcg:cs.getD k default with⟨x,s⟩
  rw[hcg]at aI;have J:=h_ N;rw[hcg]at ah ai aq ar g1 g2 bB J;have bA:=h_ hcg;dsimp only at ah ai g1 g2;have hS:=zdA g2;obtain⟨t,ht⟩:=nm_ s.data.toList;have HT:=h_ ht;rw[<-ht]at hS;have bF:=h_ hS;rcases hlg:lstB cs k with⟨px,ps⟩
  rw[hlg]at HR;have b6:=h_ hlg;have CK:=h_ (fun wz=>zdP (2:Int) x s t wz bF.o (by have:=HK.o;omega) g1);obtain⟨y,hy⟩:=nm_ (checkC (2:Int) x t);have HY:=h_ hy;rw[<-hy]at CK;clear hr N bc bd bf hcg hS ht hlg g2 hy;go_wp2_with fail;refine(CK.o _).mono ?_;rintro e w4⟨rfl,hb⟩;have bX:wr.heap.size<=w4.heap.size:=hb.size;have Y:=bT HB hb;have a4:=h_ (HO.later hb l_);have a6:=h_ ((hb.block w.heap.size (by have:=HZ.o;omega)).trans HR.o);have aS:=h_ (show w.heap.size+1<=w4.heap.size by have:=HZ.o;omega);obtain⟨ah,ai⟩:=J.o w4 (HV.later Y.o l_)
  try dsimp only at ah ai
  clear hb bX CK HB HO HR HZ;by_cases aA:y=0
  .have bW:((y:Int)!=0)=false:=(by rw[bne_eq_false_iff_eq];omega);have a3:=h_ (ar.o (by rw[<-HT.o,<-HY.o];exact aA));have aC:Fit (2:Int) (x,t):=⟨by rw[<-HY.o];exact aA,g1⟩;have HF:=h_ aC;clear aC aq ar;have aP:=h_ ((HF.num (by decide)).2 rfl);have af:=h_ (zpW HC.o kl av.o bA.o aP.o);obtain⟨r,hr⟩:=nm_ (k%8);rw[<-hr]at af;have bR:(k:Int)%8=(r:Int):=(by omega);have ci:r<8:=(by omega);clear hr;have d:=h_ (zeT HC.o av.o);have d:=h_ (show(wrC (2:Int) ((cesL cs).take k)).length<=1000000 by have:=d.o;have:=HS.o;omega);have Z:=h_ (show Lz w (w4.alloc (.cells #[.int .u64 (x:Int),.string s] 65))from Y.alloc Y.size _);have V:=h_ (show Own (w4.alloc (.cells #[.int .u64 (x:Int),.string s] 65)) (w.heap.size+1) u6 (wrC (2:Int) ((cesL cs).take k))from a4.alloc _);have X:=h_ (show(w4.alloc (.cells #[.int .u64 (x:Int),.string s] 65)).heap[w.heap.size]?=some (.cells #[.int .u64 (px:Int),.string ps] 65 (0,0))from(AS _ _ _ (by have:=aS.o;omega)).trans a6.o);have ax:=h_ (show(w4.alloc (.cells #[.int .u64 (x:Int),.string s] 65)).heap[w4.heap.size]?=some (.cells #[.int .u64 (x:Int),.string s] 65 (0,0))from AB _ _);have U:=h_ (show w.heap.size<w4.heap.size/\w4.heap.size<(w4.alloc (.cells #[.int .u64 (x:Int),.string s] 65)).heap.size by rw[Az];have:=aS.o;omega);have aX:(w4.alloc (.cells #[.int .u64 (x:Int),.string s] 65)).cell? ⟨w.heap.size,0,none⟩=some (.int .u64 (px:Int)):=(by rw[Ag _ _ _ _ _ _ X.o];rfl);have bO:(w4.alloc (.cells #[.int .u64 (x:Int),.string s] 65)).cell? ⟨w.heap.size,1,none⟩=some (.string ps):=(by rw[Ag _ _ _ _ _ _ X.o];rfl);have b8:=h_ (show pc (2:Int) k (ceL (px,ps)) (ceL (x,s))=pc (2:Int) k (px,ps.data.toList) (x,t) by unfold ceL;rw[HT.o]);clear Y a4 a6 aS J;by_cases bm:r=0
   .subst bm;rw[show((0:Nat):Int)=0 from rfl]at bR;have au:=h_ (af.1 rfl);obtain⟨g,aD⟩:=nm_ (wrC (2:Int) ((cesL cs).take k));rw[<-aD]at V d au;have a8:=h_ (show Lz w ((w4.alloc (.cells #[.int .u64 (x:Int),.string s] 65)).alloc (.cells #[.int .u8 0] 5))from Z.alloc Z.size _);have aw:=h_ (show Own ((w4.alloc (.cells #[.int .u64 (x:Int),.string s] 65)).alloc (.cells #[.int .u8 0] 5)) (w.heap.size+1) u6 g from V.alloc _);have aN:=h_ (show((w4.alloc (.cells #[.int .u64 (x:Int),.string s] 65)).alloc (.cells #[.int .u8 0] 5)).heap[w.heap.size]?=some (.cells #[.int .u64 (px:Int),.string ps] 65 (0,0))from(AS _ _ _ (by have:=U.o;omega)).trans X.o);have aL:=h_ (show((w4.alloc (.cells #[.int .u64 (x:Int),.string s] 65)).alloc (.cells #[.int .u8 0] 5)).heap[w4.heap.size]?=some (.cells #[.int .u64 (x:Int),.string s] 65 (0,0))from(AS _ _ _ (by have:=U.o;omega)).trans ax.o);have ad:=h_ (show w.heap.size<w4.heap.size/\w4.heap.size<((w4.alloc (.cells #[.int .u64 (x:Int),.string s] 65)).alloc (.cells #[.int .u8 0] 5)).heap.size by rw[Az];have:=U.o;omega);clear aD af;go_wp2_with (with_reducible refine wpl_append (w.heap.size+1) _ _ ?hs aw.o _ [UInt8.ofNat (0:Int).toNat] ?hx (zqZ (w4.alloc (.cells #[.int .u64 (x:Int),.string s] 65)) 0 (by omega) (by omega)) ?hn ?hbase w.heap.size w a8.o (by omega) ?_)
    case hs=>rfl
    case hx=>show _=Value.slice (some ⟨(w4.alloc (.cells #[.int .u64 (x:Int),.string s] 65)).heap.size,0,none⟩) 1 1;rw[Az];rfl
    case hn=>have:=d.o;simp;omega
    case hbase=>have:=ad.o;omega
    intro T l bb ba az;have aE:=h_ ba;have m:=h_ (show Own l (w.heap.size+1) T (g++[UInt8.ofNat 0])from bb);have aM:=h_ ((az.block w.heap.size (by have:=ad.o;omega) (fun e=>zbV aw.o aN.o _ e.symm rfl)).trans aN.o);have M:=h_ ((az.block w4.heap.size (by have:=ad.o;omega) (fun e=>zbV aw.o aL.o _ e.symm rfl)).trans aL.o);have aH:=h_ (show w.heap.size<w4.heap.size/\w4.heap.size<l.heap.size by have:=ad.o;have:=az.size;omega);have aQ:=h_ (show(UInt8.ofNat 0).toNat<2^0 by decide);have d:=h_ (show g.length+1<=1000001 by have:=d.o;omega);clear bb ba az V Z X ax U aw a8 aN aL ad aX bO;go_wp2;generalize w4.heap.size=gp at *;obtain⟨q,Q⟩:=nm_ ((g++[UInt8.ofNat 0]).length);have z:q=g.length+1:=(by rw[Q];simp);have bQ:q<=1000010:=(by rw[z];have:=d.o;omega);obtain⟨f,A⟩:=nm_ ((UInt8.ofNat 0).toNat);have ap:f<2^0:=(by rw[A];exact aQ.o);have u:=m.rd (by rw[<-Q];omega);have O:=u.len;rw[<-Q]at O;have ak:=u.idx (q-1) (by rw[<-Q];omega);have aj:=u.cells (q-1) (by rw[<-Q];omega);rw[show((q-1:Nat):Int)=(q:Int)-1 from by omega]at ak;rw[show at8 (g++[UInt8.ofNat 0]) (q-1)=(f:Int)from by unfold at8;rw[A,z];simp]at aj;have aX:l.cell? ⟨gp,0,none⟩=some (.int .u64 (x:Int)):=(by rw[Ag _ _ _ _ _ _ M.o];rfl);have bP:0<q:=(by omega);have aK:=h_ z;have ae:=h_ Q;have aR:=h_ A;have ag:=h_ ap;clear u Q z A ap;go_loopw [11,12] (fun bt kk a0=>∃j B:Nat,j<=0/\kk=.int .i64 j/\bt=.int .u8 (B:Int)/\Hid (B=2^j)/\B<=128/\l=a0) (fun _ kk _=>0-(intOf kk).toNat)
    case atStart=>exact⟨0,1,by omega,rfl,rfl,h_ rfl,by omega,rfl⟩
    obtain⟨j,B,hj,rfl,rfl,aa,hB,rfl⟩:=hrel;by_cases bj:j<0
    .exact absurd bj (by omega)
    have I:j=0:=(by omega);have ab:=h_ (show B=2^0 by rw[aa.o,I]);have aY:x<=1:=aP.o;obtain⟨P,hP⟩:=nm_ (B*x:Nat);have bJ:P<=128:=(by rw[hP];have:B*x<=B*1:=Bn _ aY;omega);have ao:f+P<256:=(by have:=ag.o;rw[<-ab.o]at this;omega);have bK:(B:Int)*(x:Int)=(P:Int):=(by rw[hP];simp);obtain⟨S,bM,aV⟩:=m.set (i:=q-1) (by rw[<-ae.o];omega) (UInt8.ofNat (f+P));rw[show cellB (UInt8.ofNat (f+P))=.int .u8 ((f:Int)+(P:Int))from by unfold cellB;rw[UInt8.toNat_ofNat',BA ao];simp]at S;have G:=aE.setCell (p:=adr T (q-1)) (by omega) (.int .u8 ((f:Int)+(P:Int)));have am:w.heap.size≠(adr T (q-1)).block:=(by omega);have al:gp≠(adr T (q-1)).block:=fun e9=>zbV m.o M.o _ (zB6 m.o (i:=q-1) (by rw[<-ae.o];omega)) e9.symm;have C:=h_ (show Lz w ((l.setCell (adr T (q-1)) (.int .u8 ((f:Int)+(P:Int)))).drew)from G.drew);have E:=h_ (show Own ((l.setCell (adr T (q-1)) (.int .u8 ((f:Int)+(P:Int)))).drew) (w.heap.size+1) T ((g++[UInt8.ofNat 0]).set (q-1) (UInt8.ofNat (f+P)))from S.drew);have c:=h_ (show((l.setCell (adr T (q-1)) (.int .u8 ((f:Int)+(P:Int)))).drew).heap[w.heap.size]?=some (.cells #[.int .u64 (px:Int),.string ps] 65 (0,0))from(AF _ _ _ _ am).trans aM.o);have h:=h_ (show((l.setCell (adr T (q-1)) (.int .u8 ((f:Int)+(P:Int)))).drew).heap[gp]?=some (.cells #[.int .u64 (x:Int),.string s] 65 (0,0))from(AF _ _ _ _ al).trans M.o);have D:=h_ (show w.heap.size<gp/\gp<((l.setCell (adr T (q-1)) (.int .u8 ((f:Int)+(P:Int)))).drew).heap.size by have:=aH.o;show w.heap.size<gp/\gp<(l.setCell (adr T (q-1)) (.int .u8 ((f:Int)+(P:Int)))).heap.size;rw[Bb];exact this);have H:(g++[UInt8.ofNat 0]).set (q-1) (UInt8.ofNat (f+P))=wrC 2 ((cesL cs).take (k+1)):=(by rw[au.o,aR.o,aK.o,hP,ab.o];simp);have ac:=h_ H;clear S G am al H hP aV I;go_wp2_with fail;go_region;generalize ((l.setCell (adr T (q-1)) (.int .u8 ((f:Int)+(P:Int)))).drew)=w12 at *;have L:=h_ (show Own w12 (w.heap.size+1) T (wrC (2:Int) ((cesL cs).take (k+1)))from ac.o ▸ E.o);have e0:w12.cell? ⟨gp,0,none⟩=some (.int .u64 (x:Int)):=(by rw[Ag _ _ _ _ _ _ h.o];rfl);have e1:w12.cell? ⟨gp,1,none⟩=some (.string s):=(by rw[Ag _ _ _ _ _ _ h.o];rfl);have f0:w12.frozen? ⟨w.heap.size,0,none⟩=false:=At _ _ _ _ _ c.o;have f1:(w12.setCell ⟨w.heap.size,0,none⟩ (.int .u64 (x:Int))).frozen? ⟨w.heap.size,1,none⟩=false:=At _ _ _ _ _ (block_setCell c.o _);have c0:w12.cell? ⟨w.heap.size,0,none⟩=some (.int .u64 (px:Int)):=(by rw[Ag _ _ _ _ _ _ c.o];rfl);have c1:(w12.setCell ⟨w.heap.size,0,none⟩ (.int .u64 (x:Int))).cell? ⟨w.heap.size,1,none⟩=some (.string ps):=(by rw[Ag _ _ _ _ _ _ (block_setCell c.o _)];rfl);have aF:=h_ (show Lz w ((w12.setCell ⟨w.heap.size,0,none⟩ (.int .u64 (x:Int))).setCell ⟨w.heap.size,1,none⟩ (.string s))from(C.setCell l_ _).setCell l_ _);have aJ:=h_ (show Own ((w12.setCell ⟨w.heap.size,0,none⟩ (.int .u64 (x:Int))).setCell ⟨w.heap.size,1,none⟩ (.string s)) (w.heap.size+1) T (wrC (2:Int) ((cesL cs).take (k+1)))from L.grown9 (za0 (za0 (World.grownBy.refl _ _) _) _) (fun q e9 e8=>zbV L.o c.o q e9 (by injection e8)));have aO:=h_ (show((w12.setCell ⟨w.heap.size,0,none⟩ (.int .u64 (x:Int))).setCell ⟨w.heap.size,1,none⟩ (.string s)).heap[w.heap.size]?=some (.cells #[.int .u64 ((lstB cs (k+1)).1:Int),.string (lstB cs (k+1)).2] 65 (0,0)) by rw[aI.o];exact block_setCell (block_setCell c.o _) _);have aT:=h_ (show w.heap.size+1<=((w12.setCell ⟨w.heap.size,0,none⟩ (.int .u64 (x:Int))).setCell ⟨w.heap.size,1,none⟩ (.string s)).heap.size by rw[Bb,Bb];have:=D.o;omega);clear L E C c h D;go_wp2;go_roundw
    case rel=>exact⟨k+1,by omega,by go_num,aF,aJ,a3,aO,aT⟩
    simp[intOf];omega
   obtain⟨g,yb,bg,bh,bi⟩:=af.2 bm;have e0:((r:Int)==0)=false:=(by rw[As];omega);have aQ:=h_ bh;have au:=h_ bi;rw[bg]at V d;have d:=h_ (show g.length+1<=1000000 by have:=d.o;simpa using this);clear bg bh bi af;have m:=V;have aE:=Z;have aM:=X;have M:=ax;have aH:=U;clear V Z X ax U;go_wp2;generalize (w4.alloc (.cells #[.int .u64 (x:Int),.string s] 65))=l at *;generalize w4.heap.size=gp at *;obtain⟨q,Q⟩:=nm_ ((g++[yb]).length);have z:q=g.length+1:=(by rw[Q];simp);have bQ:q<=1000010:=(by rw[z];have:=d.o;omega);obtain⟨f,A⟩:=nm_ ((yb).toNat);have ap:f<2^r:=(by rw[A];exact aQ.o);have u:=m.rd (by rw[<-Q];omega);have O:=u.len;rw[<-Q]at O;have ak:=u.idx (q-1) (by rw[<-Q];omega);have aj:=u.cells (q-1) (by rw[<-Q];omega);rw[show((q-1:Nat):Int)=(q:Int)-1 from by omega]at ak;rw[show at8 (g++[yb]) (q-1)=(f:Int)from by unfold at8;rw[A,z];simp]at aj;have aX:l.cell? ⟨gp,0,none⟩=some (.int .u64 (x:Int)):=(by rw[Ag _ _ _ _ _ _ M.o];rfl);have bP:0<q:=(by omega);have aK:=h_ z;have ae:=h_ Q;have aR:=h_ A;have ag:=h_ ap;clear u Q z A ap;go_loopw [11,12] (fun bt kk a0=>∃j B:Nat,j<=r/\kk=.int .i64 j/\bt=.int .u8 (B:Int)/\Hid (B=2^j)/\B<=128/\l=a0) (fun _ kk _=>r-(intOf kk).toNat)
   case atStart=>exact⟨0,1,by omega,rfl,rfl,h_ rfl,by omega,rfl⟩
   obtain⟨j,B,hj,rfl,rfl,aa,hB,rfl⟩:=hrel;by_cases bj:j<r
   .have cg:B<=64:=(by rw[aa.o];exact(show 2^j<=2^6 from BE (by decide) (by omega)));go_wp2;go_roundw
    case rel=>exact⟨j+1,B*2,by omega,by go_num,by go_num,h_ (by rw[aa.o,Bl]),by omega,by first|trivial|rfl⟩
    simp[intOf];omega
   have I:j=r:=(by omega);have ab:=h_ (show B=2^r by rw[aa.o,I]);have aY:x<=1:=aP.o;obtain⟨P,hP⟩:=nm_ (B*x:Nat);have bJ:P<=128:=(by rw[hP];have:B*x<=B*1:=Bn _ aY;omega);have ao:f+P<256:=(by have:=ag.o;rw[<-ab.o]at this;omega);have bK:(B:Int)*(x:Int)=(P:Int):=(by rw[hP];simp);obtain⟨S,bM,aV⟩:=m.set (i:=q-1) (by rw[<-ae.o];omega) (UInt8.ofNat (f+P));rw[show cellB (UInt8.ofNat (f+P))=.int .u8 ((f:Int)+(P:Int))from by unfold cellB;rw[UInt8.toNat_ofNat',BA ao];simp]at S;have G:=aE.setCell (p:=adr u6 (q-1)) (by omega) (.int .u8 ((f:Int)+(P:Int)));have am:w.heap.size≠(adr u6 (q-1)).block:=(by omega);have al:gp≠(adr u6 (q-1)).block:=fun e9=>zbV m.o M.o _ (zB6 m.o (i:=q-1) (by rw[<-ae.o];omega)) e9.symm;have C:=h_ (show Lz w ((l.setCell (adr u6 (q-1)) (.int .u8 ((f:Int)+(P:Int)))).drew)from G.drew);have E:=h_ (show Own ((l.setCell (adr u6 (q-1)) (.int .u8 ((f:Int)+(P:Int)))).drew) (w.heap.size+1) u6 ((g++[yb]).set (q-1) (UInt8.ofNat (f+P)))from S.drew);have c:=h_ (show((l.setCell (adr u6 (q-1)) (.int .u8 ((f:Int)+(P:Int)))).drew).heap[w.heap.size]?=some (.cells #[.int .u64 (px:Int),.string ps] 65 (0,0))from(AF _ _ _ _ am).trans aM.o);have h:=h_ (show((l.setCell (adr u6 (q-1)) (.int .u8 ((f:Int)+(P:Int)))).drew).heap[gp]?=some (.cells #[.int .u64 (x:Int),.string s] 65 (0,0))from(AF _ _ _ _ al).trans M.o);have D:=h_ (show w.heap.size<gp/\gp<((l.setCell (adr u6 (q-1)) (.int .u8 ((f:Int)+(P:Int)))).drew).heap.size by have:=aH.o;show w.heap.size<gp/\gp<(l.setCell (adr u6 (q-1)) (.int .u8 ((f:Int)+(P:Int)))).heap.size;rw[Bb];exact this);have H:(g++[yb]).set (q-1) (UInt8.ofNat (f+P))=wrC 2 ((cesL cs).take (k+1)):=(by rw[au.o,aR.o,aK.o,hP,ab.o];simp);have ac:=h_ H;clear S G am al H hP aV I;go_wp2_with fail;go_region;generalize ((l.setCell (adr u6 (q-1)) (.int .u8 ((f:Int)+(P:Int)))).drew)=w12 at *;have L:=h_ (show Own w12 (w.heap.size+1) u6 (wrC (2:Int) ((cesL cs).take (k+1)))from ac.o ▸ E.o);have e0:w12.cell? ⟨gp,0,none⟩=some (.int .u64 (x:Int)):=(by rw[Ag _ _ _ _ _ _ h.o];rfl);have e1:w12.cell? ⟨gp,1,none⟩=some (.string s):=(by rw[Ag _ _ _ _ _ _ h.o];rfl);have f0:w12.frozen? ⟨w.heap.size,0,none⟩=false:=At _ _ _ _ _ c.o;have f1:(w12.setCell ⟨w.heap.size,0,none⟩ (.int .u64 (x:Int))).frozen? ⟨w.heap.size,1,none⟩=false:=At _ _ _ _ _ (block_setCell c.o _);have c0:w12.cell? ⟨w.heap.size,0,none⟩=some (.int .u64 (px:Int)):=(by rw[Ag _ _ _ _ _ _ c.o];rfl);have c1:(w12.setCell ⟨w.heap.size,0,none⟩ (.int .u64 (x:Int))).cell? ⟨w.heap.size,1,none⟩=some (.string ps):=(by rw[Ag _ _ _ _ _ _ (block_setCell c.o _)];rfl);have aF:=h_ (show Lz w ((w12.setCell ⟨w.heap.size,0,none⟩ (.int .u64 (x:Int))).setCell ⟨w.heap.size,1,none⟩ (.string s))from(C.setCell l_ _).setCell l_ _);have aJ:=h_ (show Own ((w12.setCell ⟨w.heap.size,0,none⟩ (.int .u64 (x:Int))).setCell ⟨w.heap.size,1,none⟩ (.string s)) (w.heap.size+1) u6 (wrC (2:Int) ((cesL cs).take (k+1)))from L.grown9 (za0 (za0 (World.grownBy.refl _ _) _) _) (fun q e9 e8=>zbV L.o c.o q e9 (by injection e8)));have aO:=h_ (show((w12.setCell ⟨w.heap.size,0,none⟩ (.int .u64 (x:Int))).setCell ⟨w.heap.size,1,none⟩ (.string s)).heap[w.heap.size]?=some (.cells #[.int .u64 ((lstB cs (k+1)).1:Int),.string (lstB cs (k+1)).2] 65 (0,0)) by rw[aI.o];exact block_setCell (block_setCell c.o _) _);have aT:=h_ (show w.heap.size+1<=((w12.setCell ⟨w.heap.size,0,none⟩ (.int .u64 (x:Int))).setCell ⟨w.heap.size,1,none⟩ (.string s)).heap.size by rw[Bb,Bb];have:=D.o;omega);clear L E C c h D;go_wp2;go_roundw
   case rel=>exact⟨k+1,by omega,by go_num,aF,aJ,a3,aO,aT⟩
   simp[intOf];omega
  have bW:((y:Int)!=0)=true:=by rw[Ao];omega
  have HF:=h_ (show wrE (2:Int) (cesL cs)=y from by rw[HE.o,aq.o (by rw[<-HT.o,<-HY.o];exact aA)];rw[<-HT.o,<-HY.o]);clear aq ar ah ai;go_wp2;go_ret2;exact⟨_,by rw[HF.o];rfl,by rw[HF.o,Aa aA];exact zaE _ _,Y.o⟩
 obtain rfl:k=n:=by omega
 have aW:(cesL cs).take k=cesL cs:=Am (by rw[za8,<-HN.o];exact l_);have HF:=h_ (show wrE (2:Int) (cesL cs)=0 from by rw[HE.o,<-aW];exact av.o);have bD:=h_ (show Own wr w.heap.size u6 (wrC (2:Int) (cesL cs)) by have:=HO.o;rw[aW]at this;exact this.base (by omega));clear aW bl;go_wp2;go_ret2;exact⟨_,by rw[HF.o];rfl,by rw[HF.o,Ab rfl];exact bD.o,HB.o⟩
def ztI(v:Value)(kind:Int)(cs:List CellB)(w:World)(e:RdE w v cs)(c:CES cs)(k:-9223372036854775808<=kind/\kind<=9223372036854775807)(d:10*cs.length+sumT (cesL cs)<=1000000) :Calls prog 167 #[.int .i64 kind,v] w (WrK w kind cs):=by
 by_cases b:kind<0\/5<kind
 .have a:=h_ (show wrE kind (cesL cs)=10 by unfold wrE;rw[Ab b]);by_cases f:kind<0
  .have g:decide (kind<0)=true:=Ah f;clear b;go_enter func167,ntmps167;go_wp2;go_ret2;exact⟨_,by rw[a.o];rfl,by rw[a.o,Aa (by decide)];exact zaE _ _,Ac _ _⟩
  have g:decide (kind<0)=false:=Af f;have j:decide (kind>5)=true:=Ah (by omega);clear b;go_enter func167,ntmps167;go_wp2;go_ret2;exact⟨_,by rw[a.o];rfl,by rw[a.o,Aa (by decide)];exact zaE _ _,Ac _ _⟩
 by_cases i:kind=2\/kind=3\/kind=4
 .rcases i with rfl|h
  .exact zqQ v cs w e c (by omega) d
  exact zqP kind h v cs w e c (by omega) d
 exact zqR v kind cs w e c (by omega) (by omega) (by omega) (by omega) d
end
section
open _root_.Go.Proofs.Tryz Go.RowKit
def zh8(s t:ByteArray)(l m:Bs)(w:World)(v:RdS s l)(H:RdS t m) :Calls prog 253 #[.string s,.string t] w fun e w'=>e=.returned (.int .i64 (shr l m:Nat))/\Lz w w':=by
 have g:=v.len;have j:=H.len;have a:=v.idx;have b:=H.idx;have U:=v.small;have V:=H.small;have x:=h_ (Ac w.heap.size w);obtain⟨p,hp⟩:=nm_ l.length;obtain⟨q,D⟩:=nm_ m.length;rw[<-hp]at g U a;rw[<-D]at j V b;have O:=h_ hp;have Q:=h_ D;obtain⟨n,hn⟩:=nm_ (min p q:Nat);have ac:n<=p:=by omega
 have ad:n<=q:=by omega
 have C:n=p\/n=q:=by omega
 have A:(if(q:Int)<(p:Int)then(q:Int)else(p:Int))=(n:Int):=by split<;>omega
 have aa:∀u,(Builtin.min_ #[3,3] 3 #[.int .i64 (p:Int),.int .i64 (q:Int)]).run prog u=.ok (.int .i64 (n:Int)) u:=by
  intro u;rw[<-A];rfl
 have N:=h_ C;clear hp D v H hn C A;go_enter func253,ntmps253;go_wp2;go_loopw [13] (fun i wr=>∃k:Nat,k<=n/\i=.int .i64 k/\Hid (l.take k=m.take k)/\Hid (Lz w wr)) (fun i _=>n-(intOf i).toNat)
 case atStart=>exact⟨0,by omega,rfl,h_ rfl,x⟩
 obtain⟨k,hk,rfl,Z,J⟩:=hrel;clear x;have r:=h_ (fun h=>zFW (l:=l) (m:=m) (k:=k) (by rw[<-O.o];omega) (by rw[<-Q.o];omega) Z.o h);by_cases v:k<n
 .have X:k<p:=by omega
  have Y:k<q:=by omega
  have L:=h_ (fun h=>zvJ (l:=l) (m:=m) (k:=k) (by rw[<-O.o];exact X) (by rw[<-Q.o];exact Y) Z.o h);have x1:=a k X;have x2:=b k Y;obtain⟨c,S⟩:∃c:Nat,at8 l k=(c:Int):=⟨(l.getD k 0).toNat,rfl⟩;obtain⟨d,T⟩:∃d:Nat,at8 m k=(d:Int):=⟨(m.getD k 0).toNat,rfl⟩;have y:(l.getD k 0).toNat=c:=by unfold at8 at S;omega
  have z:(m.getD k 0).toNat=d:=by unfold at8 at T;omega
  have E:=h_ y;have G:=h_ z;rw[S]at x1;rw[T]at x2;clear y z S T a b X Y;by_cases I:c=d
  .have M:=h_ (L.o (UInt8.toNat_inj.1 (by rw[E.o,G.o,I])));subst I;clear r L E G;have D:((c:Int)!=(c:Int))=false:=(by simp);go_wp2;go_quiet (fail);go_wp2;go_roundw
   case rel=>exact⟨k+1,by omega,by go_num,M,h_ (Go.below_drewN J.o _)⟩
   simp[intOf];omega
  have f:=h_ (r.o (fun _ _ h=>I (by rw[<-E.o,<-G.o,h])));have D:((c:Int)!=(d:Int))=true:=by simp;omega
  clear r L E G I;go_wp2;go_quiet (fail);go_wp2;go_ret;exact⟨by rw[f.o];rfl,Go.below_drewN J.o _⟩
 obtain rfl:k=n:=by omega
 have f:=h_ (r.o (fun h9 h8=>absurd N.o (by rw[O.o,Q.o];omega)));clear r a b;go_wp2;go_ret;exact⟨by rw[f.o];rfl,J.o⟩
def numL(cs:List CellB):List Nat:=cs.map (·.1)
def zg9(cs:List CellB):(numL cs).length=cs.length:=by unfold numL;rw[Ad]
def zBH(cs:List CellB)(k:Nat)(a:k<cs.length):(numL cs).take (k+1)=(numL cs).take k++[(cs.getD k default).1]:=by
 rw[zaH (by rw[zg9];exact a) 0];unfold numL;simp[List.getD,a]
def zrA(cs:List CellB):(cesL cs).map (fun c=>c.1)=numL cs:=by
 unfold cesL numL ceL;rw[A6];rfl
def zdD(c:World)(bv:Value)(lb:Bs)(f:Nat)(aj:f<18446744073709551616)(v:Value)(cs:List CellB)(w:World)(hv:RdE c v cs)(hC:CES cs)(U:Lz c w)(hO:Own w c.heap.size bv lb)(hs:lb.length+10*cs.length<=1000000) :Calls prog 251 #[bv,.int .u64 (f:Int),v] w fun e w'=>∃b,e=.returned b/\Own w' c.heap.size b (lb++stp f (numL cs))/\Lz c w':=by
 have Y:=hv.len;have al:=hv.small;obtain⟨n,hn⟩:=nm_ cs.length;rw[<-hn]at Y al;have HN:=h_ hn;have HV:=h_ hv;have HC:=h_ hC;have HS:=h_ hs;have C:=h_ U;have I:=h_ hO;clear hv hC hs hn U hO;go_enter func251,ntmps251;go_wp2;go_loopw [0,1,11] (fun b a i wr=>∃k A:Nat,k<=n/\i=.int .i64 k/\a=.int .u64 (A:Int)/\Hid (A=zrH f ((numL cs).take k))/\Hid (Lz c wr)/\Hid (Own wr c.heap.size b (lb++stp f ((numL cs).take k)))) (fun _ _ i _=>n-(intOf i).toNat)
 case atStart=>exact⟨0,f,by omega,rfl,rfl,h_ rfl,C,h_ (by rw[AU,stp,AV];exact I.o)⟩
 clear C I aj;obtain⟨k,A,hk,rfl,rfl,HP,y,HO⟩:=hrel;by_cases Z:k<n
 .have kl:k<cs.length:=by rw[<-HN.o];exact Z
  have hr:=HV.later y.o l_;obtain⟨b,o,ax,g,aw⟩:=hr.get kl;obtain⟨r,t⟩:=g _ hr;obtain⟨g1,g2⟩:=CES.get HC.o kl;have h:=zBH cs k kl;rcases hcg:cs.getD k default with⟨x,s⟩
  rw[hcg]at r t g1 h;dsimp only at r t g1 h;have G:=h_ h;have H:=h_ (show(lb++stp f ((numL cs).take k)).length<=1000000 by
   have:=zFU f ((numL cs).take k);have h9:=HS.o;rw[Aq,zg9]at this;rw[Ae];omega)
  obtain⟨z,hz⟩:=nm_ (wrap64 (IntKind.u64.wrap ((x:Int)-A)));have u:z=wrap64 ((x:Int)-A):=by rw[hz,IntKind.wrap_u64];unfold wrap64;omega
  have M:=h_ (show stepZ A x=zig z by unfold stepZ;rw[u]);have aa:-9223372036854775808<=z/\z<=9223372036854775807:=by rw[u];unfold wrap64;omega
  have d:=h_ aa;have ai:=h_ hz.symm;have D:=h_ (show Lz c (wr.alloc (.cells #[.int .u64 (x:Int),.string s] 65))from y.alloc y.size _);have J:=h_ (show Own (wr.alloc (.cells #[.int .u64 (x:Int),.string s] 65)) c.heap.size u0 (lb++stp f ((numL cs).take k))from HO.alloc _);have L:=h_ (show(wr.alloc (.cells #[.int .u64 (x:Int),.string s] 65)).heap[wr.heap.size]?=some (.cells #[.int .u64 (x:Int),.string s] 65 (0,0))from AB _ _);have j:=h_ (show c.heap.size<=wr.heap.size/\wr.heap.size<(wr.alloc (.cells #[.int .u64 (x:Int),.string s] 65)).heap.size by rw[Az];have:=y.size;omega);clear u aa hz hr g hcg h g2 y HO;go_wp2_with fail;rw[ai.o];generalize (wr.alloc (.cells #[.int .u64 (x:Int),.string s] 65))=w6 at *;generalize wr.heap.size=gp at *;refine(zv3 z (d.o).1 (d.o).2 _).mono ?_;rintro e w7⟨yv,rfl,Q,T⟩;have E:=bT D T;have m:=h_ (J.later T l_);have p:=h_ ((T.block gp (by have:=j.o;omega)).trans L.o);have l:=h_ (show c.heap.size<=gp/\gp<w7.heap.size by have:=j.o;have:=T.size;omega);have hY:=Q.rd (by have:=zaA (zig z) (zeS z (d.o).1 (d.o).2);omega);have N:=h_ hY;clear T Q hY D J L j;go_wp2_with (with_reducible refine wpl_append c.heap.size _ _ ?hs m.o _ (encU (zig z)) ?hx N.o ?hn ?hbase c.heap.size c E.o l_ ?_)
  case hs=>rfl
  case hx=>rfl
  case hn=>have:=H.o;have:=zaA (zig z) (zeS z (d.o).1 (d.o).2);omega
  case hbase=>have:=l.o;omega
  intro v8 w8 S O V;have ac:=h_ O;have ah:=h_ ((V.block gp (by have:=l.o;omega) (fun e=>zbV m.o p.o _ e.symm rfl)).trans p.o);have af:=h_ (show Own w8 c.heap.size v8 (lb++stp f ((numL cs).take (k+1)))from by rw[G.o,zvH,<-HP.o,M.o,<-An];exact S);have ag:=h_ (show x=zrH f ((numL cs).take (k+1))from by rw[G.o,znE]);have e0:w8.cell? ⟨gp,0,none⟩=some (.int .u64 (x:Int)):=by rw[Ag _ _ _ _ _ _ ah.o];rfl
  clear S O V m E p l N r t;go_wp2;go_roundw
  case rel=>exact⟨k+1,x,by omega,by go_num,rfl,ag,ac,af⟩
  simp[intOf];omega
 obtain rfl:k=n:=by omega
 have X:(numL cs).take k=numL cs:=Am (by rw[zg9,<-HN.o];exact l_);have ae:=h_ (show Own wr c.heap.size u0 (lb++stp f (numL cs)) by have:=HO.o;rw[X]at this;exact this);clear X Z;go_wp2;go_ret;exact⟨_,rfl,ae.o,y.o⟩
def zj1(v:Value)(cs:List CellB)(w:World)(h:RdE w v cs)(d:CES cs)(g:10*cs.length<=1000000) :Calls prog 227 #[v] w (RetB w (wrC 0 (cesL cs))):=by
 have c:=h_ (zdD w (.slice none 0 0) [] 0 (by decide) v cs w h d (Ac _ _) (zaE _ _) (by simpa using g));rw[zDG,zrA];clear h d g;go_enter func227,ntmps227;go_wp2_with fail;refine c.mono ?_;rintro e k⟨b,rfl,a,f⟩;rw[AA]at a;have j:=h_ a;have i:=h_ f;clear a f c;go_wp2;go_ret;exact⟨_,rfl,j.o,i.o⟩
end
section
open _root_.Go.Proofs.Tryz Go.RowKit
variable {cs:List CellB} {S:Nat->Prop} {a b c w:World}
def Only.far9{r:Option Nat}(h:Only S a b)(k:b.grownBy c r)(hm:∀q,r=some q->a.heap.size<=q):Only S a c :=
 ⟨k.os.trans h.os,k.tape.trans h.tape,k.output.trans h.output,Ar h.size k.size,fun j d f=>(k.block j (AE d h.size) (fun e=>by have:=hm j e.symm;omega)).trans (h.block j d f)⟩
def Only.trans9 {T:Nat->Prop}(h:Only S a b)(k:Only T b c)(f:∀j,j<a.heap.size->T j->S j):Only S a c :=
 ⟨k.os.trans h.os,k.tape.trans h.tape,k.output.trans h.output,Ar h.size k.size,fun j d e=>(k.block j (AE d h.size) (fun g=>e (f j d g))).trans (h.block j d e)⟩
def lenV9:Value->Nat
 | .slice _ n _=>n
 | _=>0
def OwnE.lenV9{w:World}{base:Nat}{v:Value}{cs:List CellB}(h:OwnE w base v cs):lenV9 v=cs.length:=by
 rcases h.1.2 with⟨rfl,a⟩|⟨g,cap,b,rfl,_⟩
 .rw[Ad]at a;exact a.symm
 show(cs.map cellVs).length=_;rw[Ad]
def zfL(cs:List CellB)(c:CellB):cesL (cs++[c])=cesL cs++[ceL c]:=by unfold cesL;simp
def CES.snoc(h:CES cs){c:CellB}(b:ceS c):CES (cs++[c]):=by
 intro x a;rcases AD.1 a with a|a
 .exact h x a
 rw[AH.1 a];exact b
def CES.nil:CES []:=fun c a=>absurd a (by simp)
def Took9(w0:World)(g:Nat)(v:Value)(l:Bs)(R:List Ce×Nat×Nat)(e:Ending)(w':World):Prop :=
 Only (fun j=>j=g) w0 w'/\((R.2.2=0/\∃tv cs,e=.returned tv/\OwnE w' w0.heap.size tv cs/\CES cs/\cesL cs=R.1/\Rdr w' g v l R.2.1) \/
  (R.2.2≠0/\e=.panicked [{ v:=zaU g R.2.2,recovered:=false}]/\zj7 w' g v l R.2.1 R.2.2))
def zd1{f:FuncId}{b:Func}{c:Code}(g:prog.funcs[f]? = some b)(a:(b.name == "runtime.NumGoroutine")=false)(e:b.body=some c)(args:Array Value)(u:World):(callFunc f args).run prog u=.ok (.enter f args) u:=by
 have d:b.name ≠ "runtime.NumGoroutine" :=by simpa using a
 simp[callFunc,g,d,e,mark]
def zwG{G:Prop}{a:Act}(h:G)(_:wpAny prog .any #[] (fun _ _ _=>True) 0 #[] a w):G:=h
def zfZ {w':World}{g:Nat}{v:Value}{l:Bs}{k:Nat}{p:Value}(m:g<b.heap.size)(d:∀i,i<l.length->(adr v i).block<b.heap.size)(c:Only (fun j=>j=g) b w)(h:Rdr w g v l k)(r:OwnE w b.heap.size p cs)(a:Below b.heap.size w w'):Only (fun j=>j=g) b w'/\Rdr w' g v l k :=
 ⟨⟨a.os.trans c.os,a.tape.trans c.tape,a.output.trans c.output,Ar c.size a.size,fun j e f=>(a.block j e).trans (c.block j e f)⟩,
  h.same (a.block g m) (fun i n=>a.block _ (d i n))⟩
/- -/
def zD3(p y:Nat):IntKind.u64.wrap ((p:Int)+IntKind.u64.wrap (zag y))=(addZ p y:Int):=by
 rw[IntKind.wrap_u64,IntKind.wrap_u64];unfold addZ;omega
def zeM(m:World)(g:Nat)(v:Value)(l:Bs)(k0:Nat)(bv:Value)(d:List CellB)(V:Nat)(Z:V<18446744073709551616)(n:Nat)(w:World)(kind:Int)(ht:¬(kind=3\/kind=4))(hz:d.length≠0\/kind=0)(hg:g<m.heap.size)(ad:∀i,i<l.length->(adr v i).block<m.heap.size)(hO:Only (fun j=>j=g) m w)(hR:Rdr w g v l k0)(hW:OwnE w m.heap.size bv d)(hC:CES d)(hn:d.length+n<=1024) :Calls prog 252 #[.pointer (some ⟨g,0,none⟩),bv,.int .u64 (V:Int),.int .i64 (n:Int)] w (Took9 m g v l (rdN l kind n (V,[]) (cesL d) k0)):=by
 obtain⟨R,E⟩:=nm_ (rdN l kind n (V,[]) (cesL d) k0);rw[<-E];have S:=h_ E;have aP:n<=1024:=by omega
 have HG:=h_ hg;have au:=h_ ad;have M:=h_ hO;have O:=h_ hR;have T:=h_ hW;have L:=h_ hC;have HN:=h_ hn;have HZ:=h_ hz;have HT:=h_ ht;clear hg ad hO hR hW hC hn E hz ht;go_enter func252,ntmps252;go_wp2;go_loopw [1,2,10] (fun b a i wr=>∃(j A k:Nat)(cs:List CellB),j<=n/\i=.int .i64 j/\a=.int .u64 (A:Int)/\Hid (A<18446744073709551616)/\Hid (cs.length=d.length+j)/\Hid (Only (fun j=>j=g) m wr)/\Hid (Rdr wr g v l k)/\Hid (OwnE wr m.heap.size b cs)/\Hid (CES cs)/\Hid (R=rdN l kind (n-j) (A,[]) (cesL cs) k)) (fun _ _ i _=>n-(intOf i).toNat)
 case atStart=>exact⟨0,V,k0,d,by omega,rfl,rfl,h_ Z,h_ rfl,M,O,T,L,S⟩
 clear M O T L S Z;obtain⟨j,A,k,cs,hj,rfl,rfl,HP,HL,HO,HR,HW,HC,HK⟩:=hrel;by_cases ay:j<n
 .have d1:decide ((j:Int)<(n:Int))=true:=Ah (by omega);go_wp2_with fail;refine(zn5 g v l k wr HR.o).mono ?_;intro e I hu;by_cases hx:(rdU l k 18446744073709551615).2.2=0
  .obtain⟨rfl,h,D⟩:=hu.ok hx;have f:=zE5 (i:=cs.length) (p:=(A,[])) HT.o (by have:=HZ.o;have:=HL.o;omega) hx;obtain⟨y,hy⟩:=nm_ ((rdU l k 18446744073709551615).1);obtain⟨k1,G⟩:=nm_ ((rdU l k 18446744073709551615).2.1);rw[<-G]at D;rw[<-hy,<-G]at f;rw[<-hy];have hw:=zD3 A y;obtain⟨q,hq⟩:=nm_ (addZ A y);have ac:q<18446744073709551616:=(by rw[hq];exact zuX _ _);dsimp only at f;rw[<-hq]at hw f;have ar:=h_ f;have N:=h_ ac;have s:=h_ (HO.grown h rfl);have Q:=h_ D;have C:=h_ (HW.grown h (fun q hq=>by have:=(OwnE.lt HW.o hq).1;have:=HG.o;intro e;injection e with e;omega));obtain⟨z,hz⟩:=nm_ (zag y);rw[<-hz]at hw ⊢;clear hu hx hy G f hq ac hz h D HO HR HW;have J:=h_ (show Below m.heap.size I (I.alloc (.cells #[.int .u64 (q:Int),.string ⟨#[]⟩] 65))from(Ac _ _).alloc s.size _);have U:=h_ (C.alloc (.cells #[.int .u64 (q:Int),.string ⟨#[]⟩] 65));go_wp2_with (with_reducible refine zc7 m.heap.size _ ?hs U.o ⟨I.heap.size,0,none⟩ (q,⟨#[]⟩) ?hx (zcI I (q,⟨#[]⟩)) ?hn ?hbase m.heap.size I J.o l_ ?_)
   case hs=>rfl
   case hx=>rfl
   case hn=>rw[HL.o];have:=HN.o;omega
   case hbase=>rw[Az];have:=s.size;omega
   intro v8 w8 Y X ax;have H:=zfZ HG.o au.o s.o Q.o C.o X;have ao:=h_ H.1;have aq:=h_ H.2;have av:=h_ Y;have aj:=h_ (HC.snoc (c:=(q,⟨#[]⟩)) ⟨N.o,by show(ByteArray.size ⟨#[]⟩)<=140737488351232;decide⟩);have an:=h_ (show(cs++[((q,⟨#[]⟩):CellB)]).length=d.length+(j+1) by rw[Ae,AN,HL.o];omega);have al:=h_ (show R=rdN l kind (n-(j+1)) (q,[]) (cesL (cs++[((q,⟨#[]⟩):CellB)])) k1 from by
    rw[HK.o,show n-j=(n-(j+1))+1 from by omega,zvQ (by rw[za8];exact ar.o),zfL];rfl)
   clear H Y X ax s Q C J U hw;go_wp2;go_roundw
   case rel=>exact⟨j+1,q,k1,_,by omega,by go_num,rfl,N,an,ao,aq,av,aj,al⟩
   simp[intOf];omega
  obtain⟨rfl,h,hE⟩:=hu.no hx;have f:=zr4 (kind:=kind) (i:=cs.length) (p:=(A,[])) HT.o hx;obtain⟨x,u⟩:=nm_ ((rdU l k 18446744073709551615).2.2);obtain⟨k2,aa⟩:=nm_ ((rdU l k 18446744073709551615).2.1);rw[<-u]at hx;rw[<-aa,<-u]at hE f;have t:R=([],k2,x):=by
   rw[HK.o,show n-j=(n-(j+1))+1 from by omega];exact zoT (by rw[za8];exact f) hx
  have r:=h_ (show Took9 m g v l R (.panicked [{ v:=zaU g x,recovered:=false}]) I from⟨HO.grown h rfl,.inr ⟨by rw[t];exact hx,by rw[t],by rw[t];exact hE⟩⟩);rw[<-u];clear hu h hE u aa f t;go_wp2;exact⟨rfl,r.o⟩
 obtain rfl:j=n:=by omega
 have d1:decide ((j:Int)<(j:Int))=false:=Af (by omega);have t:R=(cesL cs,k,0):=by rw[HK.o,BT,rdN]
 have r:=h_ (show Took9 m g v l R (.returned u1) wr from⟨HO.o,.inl ⟨by rw[t],u1,cs,rfl,HW.o,HC.o,by rw[t],by rw[t];exact HR.o⟩⟩);clear t ay;go_wp2;go_ret;exact r.o
/- -/
def zEA(w:World)(base:Nat)(d:base<=w.heap.size)(c:CellB):OwnE (w.alloc (.cells #[.int .u64 (c.1:Int),.string c.2] 65)) base (.slice (some ⟨w.heap.size,0,none⟩) 1 1) [c] :=
 ⟨⟨rfl,.inr ⟨w.heap.size,1,#[.int .u64 (c.1:Int),.string c.2],rfl,d,AB _ _,l_,by decide,rfl,rfl⟩⟩,by simp[cellVs,zeR],by
  intro x b u a;simp[cellVs]at b;subst b;simp at a;rcases a with rfl|rfl<;>rfl⟩
def zlK(g:Nat)(v:Value)(l:Bs)(k:Nat)(n:Nat)(w:World)(d:Rdr w g v l k)(y:n<=1024) :Calls prog 228 #[.pointer (some ⟨g,0,none⟩),.int .i64 (n:Int)] w (Took9 w g v l (rdN l 0 n (0,[]) [] k)):=by
 have a:=fun i(x:i<l.length)=>d.rd.block x;have f:=h_ (zeM w g v l k (.slice none 0 0) [] 0 (by decide) n w 0 (by decide) (.inr rfl) d.lt a (Only.refl _ _) d (OwnE.nil _ _) CES.nil (by simpa using y));clear d a;go_enter func228,ntmps228;go_wp2_with fail;refine f.mono ?_;rintro e u⟨c,⟨b,t,cs,rfl,j,m,p,r⟩|⟨b,rfl,s⟩⟩
 .have h:=h_ (show Took9 w g v l (rdN l 0 n (0,[]) [] k) (.returned t) u from⟨c,.inl ⟨b,t,cs,rfl,j,m,p,r⟩⟩);clear c b j m p r f;go_wp2;go_ret;exact h.o
 have h:=h_ (show Took9 w g v l (rdN l 0 n (0,[]) [] k) (.panicked [{ v:=zaU g (rdN l 0 n (0,[]) [] k).2.2,recovered:=false}]) u from⟨c,.inr ⟨b,rfl,s⟩⟩);clear c b s f;go_wp2;exact⟨rfl,h.o⟩
def zeL(kind:Int)(hk:kind=1\/kind=5)(g:Nat)(v:Value)(l:Bs)(k:Nat)(n:Nat)(w:World)(r:Rdr w g v l k)(hn:n<=1024) :Calls prog 230 #[.pointer (some ⟨g,0,none⟩),.int .i64 (n:Int)] w (Took9 w g v l (rdN l kind n (0,[]) [] k)):=by
 cases n with
 | zero=>
  have C:=h_ (show Took9 w g v l (rdN l kind 0 (0,[]) [] k) (.returned (.slice none 0 0)) w from⟨Only.refl _ _,.inl ⟨rfl,_,[],rfl,OwnE.nil _ _,CES.nil,rfl,r⟩⟩);clear r;go_enter func230,ntmps230;go_wp2;go_ret;exact C.o
 | succ m=>
  have T:=r.lt;have S:=h_ (fun i(hi:i<l.length)=>r.rd.block hi);have f:=h_ (show ¬(kind=3\/kind=4) by omega);have Q:=h_ (show kind≠0 by omega);obtain⟨R,t⟩:=nm_ (rdN l kind (m+1) (0,[]) [] k);rw[<-t];have H:=h_ t;have V:(((m+1:Nat):Int)==0)=false:=by rw[As];omega
  have U:((m+1:Nat):Int)-1=(m:Int):=by omega
  obtain⟨q,X⟩:=nm_ (m+1:Nat);rw[<-X]at V U ⊢;have al:q<=1024:=by omega
  have HQ:=h_ X;clear t hk X;go_enter func230,ntmps230;go_wp2_with fail;refine(zc8 g v l k w r 18446744073709551615 (by decide)).mono ?_;intro e w1 O;by_cases b:(rdU l k 18446744073709551615).2.2=0
  .obtain⟨rfl,d,s⟩:=O.ok b;have y:=zE6 (p:=(0,[])) f.o Q.o b;have Y:=zIJ (l:=l) (k:=k);obtain⟨x,a⟩:=nm_ ((rdU l k 18446744073709551615).1);obtain⟨k1,u⟩:=nm_ ((rdU l k 18446744073709551615).2.1);rw[<-u]at s;rw[<-a,<-u]at y;rw[<-a]at Y ⊢;have h:=(Only.refl (fun j=>j=g) w).grown d rfl;have E:=h_ (h.alloc (.cells #[.int .u64 (x:Int),.string ⟨#[]⟩] 65));have G:=h_ (s.alloc (.cells #[.int .u64 (x:Int),.string ⟨#[]⟩] 65));have I:=h_ (zEA w1 w.heap.size h.size (x,⟨#[]⟩));have HK:=h_ (show R=rdN l kind m (x,[]) (cesL [((x,⟨#[]⟩):CellB)]) k1 from by rw[H.o,zvQ (show rd1 l kind ([]:List Ce).length (0,[]) k=_ from y)];rfl);have L:=h_ (zeM w g v l k1 _ [((x,⟨#[]⟩):CellB)] x (by omega) m _ kind f.o (.inl (by simp)) T S.o E.o G.o I.o (by intro c hc;rw[AH.1 hc];exact⟨by dsimp only;omega,by show(ByteArray.size ⟨#[]⟩)<=140737488351232;decide⟩) (by simp;omega));rw[<-HK.o]at L;clear O b y a u d s h E G I r;go_wp2_with fail;refine L.mono ?_;rintro e w2⟨N,⟨b,tv,cs,rfl,Z,h2,h3,h4⟩|⟨b,rfl,A⟩⟩
   .have C:=h_ (show Took9 w g v l R (.returned tv) w2 from⟨N,.inl ⟨b,tv,cs,rfl,Z,h2,h3,h4⟩⟩);clear N b Z h2 h3 h4 L;go_wp2;go_ret;exact C.o
   have C:=h_ (show Took9 w g v l R (.panicked [{ v:=zaU g R.2.2,recovered:=false}]) w2 from⟨N,.inr ⟨b,rfl,A⟩⟩);clear N b A L;go_wp2;exact⟨rfl,C.o⟩
  obtain⟨rfl,d,A⟩:=O.no b;have z:=zr4 (kind:=kind) (i:=0) (p:=(0,[])) f.o b;obtain⟨x,a⟩:=nm_ ((rdU l k 18446744073709551615).2.2);obtain⟨k2,J⟩:=nm_ ((rdU l k 18446744073709551615).2.1);rw[<-a]at b;rw[<-J,<-a]at A z;have M:R=([],k2,x):=by rw[H.o];exact zoT z b
  have D:=h_ (show Took9 w g v l R (.panicked [{ v:=zaU g x,recovered:=false}]) w1 from⟨(Only.refl _ _).grown d rfl,.inr ⟨by rw[M];exact b,by rw[M],by rw[M];exact A⟩⟩);rw[<-a];clear O d A a J z M r;go_wp2;exact⟨rfl,D.o⟩
/- -/
def zi1:∀(t c:Nat),zbY (t+1) c=zbY t c++[c/2^t%2]
 | 0,c=>by simp[zbY]
 | t+1,c=>by
  rw[zbY,zi1 t (c/2),zbY,BG,Bl,BS 2];rfl
def zo4(a:List Nat)(x:Nat):zc6 (a++[x])=zc6 a++[(x,[])]:=by rw[zm7];rfl
def zj4(g:Nat)(v:Value)(l:Bs)(k0:Nat)(n:Nat)(w:World)(hR:Rdr w g v l k0)(hn:n<=1024) :Calls prog 232 #[.pointer (some ⟨g,0,none⟩),.int .i64 (n:Int)] w (Took9 w g v l (rdQ l ((n+7)/8) n [] k0)):=by
 obtain⟨R,J⟩:=nm_ (rdQ l ((n+7)/8) n [] k0);rw[<-J];have Y:=h_ J;have HG:=h_ hR.lt;have aI:=h_ (fun i(hi:i<l.length)=>hR.rd.block hi);have T:=h_ (Only.refl (fun j=>j=g) w);have V:=h_ hR;clear J hR;go_enter func232,ntmps232;go_wp2;go_loopw [5] (fun b wr=>∃(j k:Nat)(cs:List CellB),j<=n/\Hid (j%8=0\/j=n)/\Hid (cs.length=j)/\Hid (Only (fun j=>j=g) w wr)/\Hid (Rdr wr g v l k)/\Hid (OwnE wr w.heap.size b cs)/\Hid (CES cs)/\Hid (R=rdQ l ((n-j+7)/8) (n-j) (cesL cs) k)) (fun b wr=>n-lenV9 b)
 case atStart=>exact⟨0,k0,[],by omega,h_ (.inl rfl),h_ rfl,T,V,h_ (OwnE.nil _ _),h_ CES.nil,Y⟩
 clear T V Y;obtain⟨j,k,cs,hj,H8,HL,x,D,r,HC,HE⟩:=hrel;have E:=(r.rd (by have:=HL.o;omega)).len;rw[HL.o]at E;by_cases aN:j<n
 .have d1:decide ((j:Int)<(n:Int))=true:=Ah (by omega);have h8:j%8=0:=by rcases H8.o with h|h<;>omega
  have I:=HE.o;rw[show(n-j+7)/8=(n-j-1)/8+1 from by omega,rdQ]at I;have H:=h_ I;have ay:=h_ h8;clear I h8;go_wp2_with fail;refine(zkK g v l k wr D.o).mono ?_;intro e w1 N;by_cases L:k<l.length
  .rw[Ab L,Ab L,Ab L]at N;obtain⟨rfl,p,ae⟩:=N.ok rfl;obtain⟨c,hc⟩:∃c:Nat,at8 l k=(c:Int):=⟨(l.getD k 0).toNat,rfl⟩;have ag:(l.getD k 0).toNat=c:=(by unfold at8 at hc;omega);have aL:=zdG l k;rw[hc]at aL ⊢;have s:=h_ (show R=if c/2^min 8 (n-j)≠0 then([],k+1,6)else rdQ l ((n-j-1)/8) (n-j-min 8 (n-j)) (cesL cs++zc6 (zbY (min 8 (n-j)) c)) (k+1)from by have:=H.o;rw[Aa (by omega),ag]at this;exact this);obtain⟨m,hm⟩:=nm_ (min 8 (n-j):Nat);rw[<-hm]at s;have ak:(if(8:Int)<((n:Int)-(j:Int))then(8:Int)else((n:Int)-(j:Int)))=(m:Int):=(by split<;>omega);have aP:∀u,(Builtin.min_ #[3,3] 3 #[.int .i64 ((n:Int)-(j:Int)),.int .i64 8]).run prog u=.ok (.int .i64 (m:Int)) u:=by
    intro u;rw[<-ak];rfl
   have a1:m<=8:=(by omega);have aO:j+m<=n:=(by omega);have aD:=h_ (show(j+m)%8=0\/j+m=n by have:=ay.o;omega);have aE:=h_ (show(n-j-1)/8=(n-(j+m)+7)/8 by omega);have aF:=h_ (show 0<m by omega);have U:=h_ (x.grown p rfl);have X:=h_ ae;have Z:=h_ (r.grown p (fun q hq=>by have:=(OwnE.lt r.o hq).1;have:=HG.o;intro e;injection e with e;omega));have aB:=h_ (OwnE.lenV9 r.o);clear N hc ag p ae x D r HE H ak hm;go_wp2;go_loopw [5,6,18] (fun b a i wi=>∃(t d:Nat)(A:List CellB),t<=m/\i=.int .i64 t/\a=.int .u8 (d:Int)/\d<=255/\Hid (d=c/2^t)/\Hid (A.length=j+t)/\Hid (cesL A=cesL cs++zc6 (zbY t c))/\Hid (Only (fun j=>j=g) w wi)/\Hid (Rdr wi g v l (k+1))/\Hid (OwnE wi w.heap.size b A)/\Hid (CES A)) (fun _ _ i _=>m-(intOf i).toNat)
   case atStart=>exact⟨0,c,cs,by omega,rfl,rfl,by omega,h_ (by simp),h_ HL.o,h_ (by simp[zbY,zc6]),U,X,Z,HC⟩
   clear U X Z E aP;obtain⟨t,d,A,ht,rfl,rfl,hd,HD,y,Q,x,D,r,G⟩:=hrel;by_cases am:t<m
   .have d2:decide ((t:Int)<(m:Int))=true:=Ah (by omega);obtain⟨q,hq⟩:=nm_ (d%2:Nat);have al:((d:Int)%2)=(q:Int):=(by omega);have ab:=h_ (show ∀j z,(cellVs (q,⟨#[]⟩))[j]?=some z->(wr.alloc (.cells #[.int .u64 ((d:Int)%2),.string ⟨#[]⟩] 65)).cell? (Addr.add ⟨wr.heap.size,0,none⟩ j)=some z from by rw[al];exact zcI wr (q,⟨#[]⟩));have O:=h_ (show Below w.heap.size wr (wr.alloc (.cells #[.int .u64 ((d:Int)%2),.string ⟨#[]⟩] 65))from(Ac _ _).alloc x.size _);have aa:=h_ (r.alloc (.cells #[.int .u64 ((d:Int)%2),.string ⟨#[]⟩] 65));have HQ:=h_ hq;clear hq al;go_wp2_with (with_reducible refine zc7 w.heap.size _ ?hs aa.o ⟨wr.heap.size,0,none⟩ (q,⟨#[]⟩) ?hx ab.o ?hn ?hbase w.heap.size wr O.o l_ ?_)
    case hs=>rfl
    case hx=>rfl
    case hn=>rw[y.o];omega
    case hbase=>rw[Az];have:=x.size;omega
    intro v8 w8 af ac aM;have M:=zfZ HG.o aI.o x.o D.o r.o ac;have aG:=h_ M.1;have aH:=h_ M.2;have aJ:=h_ af;have au:=h_ (G.snoc (c:=(q,⟨#[]⟩)) ⟨by show q<18446744073709551616;have:=HQ.o;omega,by show(ByteArray.size ⟨#[]⟩)<=140737488351232;decide⟩);have aA:=h_ (show(A++[((q,⟨#[]⟩):CellB)]).length=j+(t+1) by rw[Ae,AN,y.o];omega);have az:=h_ (show cesL (A++[((q,⟨#[]⟩):CellB)])=cesL cs++zc6 (zbY (t+1) c)from by
     rw[zfL,Q.o,zi1,zo4,<-HD.o,<-HQ.o,An];rfl)
    have av:=h_ (show d/2=c/2^(t+1)from by rw[HD.o,Bl,BG]);have ai:Value.int .u8 ((d:Int)/2)=.int .u8 ((d/2:Nat):Int):=(by rw[show((d/2:Nat):Int)=(d:Int)/2 from by omega]);have aw:=h_ ai;clear M af ac aM x D r G O aa ab ai;go_wp2;go_roundw
    case rel=>exact⟨t+1,d/2,_,by omega,by go_num,aw.o,by omega,av,aA,az,aG,aH,aJ,au⟩
    simp[intOf];omega
   obtain rfl:t=m:=(by omega);have d2:decide ((t:Int)<(t:Int))=false:=Af (by omega);by_cases ah:d=0
   .subst ah
    have S:=h_ (show R=rdQ l ((n-(j+t)+7)/8) (n-(j+t)) (cesL A) (k+1)from by
     rw[s.o,Aa (by rw[<-HD.o];simp),Q.o,aE.o,show n-j-t=n-(j+t)from by omega])
    have aC:=h_ (OwnE.lenV9 r.o);clear am;go_wp2_with fail;refine(zaD _ _ _).mono ?_;rintro e w3⟨rfl,rfl⟩;go_wp2;go_roundw
    case rel=>exact⟨j+t,k+1,A,aO,aD,y,x,D,r,G,S⟩
    have h1:=aC.o;have h2:=aB.o;have h3:=y.o;have h4:=HL.o;have h5:=aF.o;omega
   have a2:((d:Int)==0)=false:=(by rw[As];omega);have S:=h_ (show R=([],k+1,6)from by rw[s.o,Ab (by rw[<-HD.o];exact ah)]);clear am;go_wp2_with fail;refine(zaC g v l (k+1) wr D.o 6 (by decide)).mono ?_;rintro e w3⟨rfl,aj,ad⟩;have f:=h_ (show Took9 w g v l R (.panicked [{ v:=zaU g 6,recovered:=false}]) w3 from⟨x.grown aj rfl,.inr ⟨by rw[S.o];show(6:Nat)≠0;decide,by rw[S.o],by rw[S.o];exact ad⟩⟩);clear aj ad;go_wp2;exact⟨rfl,f.o⟩
  rw[Aa L,Aa L,Aa L]at N;obtain⟨rfl,p,hE⟩:=N.no (by decide);have C:R=([],k,5):=by rw[H.o,Ab (by omega)]
  have f:=h_ (show Took9 w g v l R (.panicked [{ v:=zaU g 5,recovered:=false}]) w1 from⟨x.grown p rfl,.inr ⟨by rw[C];show(5:Nat)≠0;decide,by rw[C],by rw[C];exact hE⟩⟩);clear N p hE C L;go_wp2;exact⟨rfl,f.o⟩
 obtain rfl:j=n:=by omega
 have d1:decide ((j:Int)<(j:Int))=false:=Af (by omega);have C:R=(cesL cs,k,0):=by rw[HE.o,BT];rfl
 have f:=h_ (show Took9 w g v l R (.returned u5) wr from⟨x.o,.inl ⟨by rw[C],u5,cs,rfl,r.o,HC.o,by rw[C],by rw[C];exact D.o⟩⟩);clear C aN;go_wp2;go_ret;exact f.o
/- -/
def Next9(w:World)(g:Nat)(v:Value)(l:Bs)(R:Bs×Nat×Nat)(e:Ending)(w':World):Prop :=
 w.grownBy w' (some g)/\((R.2.2=0/\∃s,e=.returned (.string s)/\RdS s R.1/\Rdr w' g v l R.2.1) \/
  (R.2.2≠0/\e=.panicked [{ v:=zaU g R.2.2,recovered:=false}]/\zj7 w' g v l R.2.1 R.2.2))
def zlJ(g:Nat)(v:Value)(l:Bs)(k:Nat)(w:World)(hR:Rdr w g v l k)(ps:ByteArray)(pl:Bs)(hP:RdS ps pl)(hl:pl.length<=256) :Calls prog 263 #[.pointer (some ⟨g,0,none⟩),.string ps] w (Next9 w g v l (rdT l pl k)):=by
 have am:=hP.len;have aq:=hP.size9;have C:=h_ hP;obtain⟨R,f⟩:=nm_ (rdT l pl k);rw[<-f];have b:=h_ f;have HU:=h_ (zc8 g v l k w hR pl.length (by omega));have V:(rdU l k pl.length).1<=pl.length:=by
  unfold rdU;split
  ·omega
  split<;>dsimp only<;>omega
 unfold rdT at f;rcases hr:rdU l k pl.length with⟨x,X,x1⟩
 rw[hr]at f HU V;dsimp only at f HU V;have b:=h_ f;clear f hr hR hP;go_enter func263,ntmps263;go_wp2_with fail;refine HU.mono ?_;intro e w1 r;by_cases hx:x1=0
 .subst hx;obtain⟨rfl,m,u⟩:=r.ok rfl;have A:=h_ m;have D:=h_ u;have T:=u.le;have ap:=u.rd.small;have U:IntKind.i64.wrap (256-(x:Int))=256-(x:Int):=by simp[IntKind.wrap,IntKind.signed,IntKind.bits];omega
  have Z:=h_ (fun wz(hz:Rdr wz g v l X)=>show Calls prog 241 #[.pointer (some ⟨g,0,none⟩),.int .i64 (IntKind.i64.wrap (256-(x:Int)))] wz (zGG wz g v l (rdB l X (256-(x:Int))))from by rw[U];exact ziH g v l X wz hz (256-(x:Int)) (by omega));clear U;have j:=fun h=>(zh9 (l:=l) (most:=256-(x:Int)) T h).2.2;rcases hr:rdB l X (256-(x:Int))with⟨t,H,x2⟩
  rw[hr]at Z b j;dsimp only at b j;clear r hr m u HU T;by_cases y:x2=0
  .subst y;have j:=j rfl;have b:=h_ (show R=if shr pl (pl.take x++t)≠x then([],H,6)else(pl.take x++t,H,0)from by rw[b.o,Aa (by simp),Aa (by simp)]);obtain⟨Y,G⟩:∃s:ByteArray,s=⟨t.toArray⟩:=⟨_,rfl⟩;have E:RdS Y t:=⟨G,by omega⟩;have au:(ps.extract 0 x).size=x:=(by rw[(C.takeS x).size9,Aq];omega);have av:Y.size=t.length:=E.size9;have Q:RdS (ps.extract 0 x++Y) (pl.take x++t):=(C.takeS x).app9 E (by rw[Aq];omega);have al:¬((ps.extract 0 x).size+Y.size>9223372036854775807):=(by omega);have N:=h_ Q;have ag:=h_ G;clear G E Q;go_wp2_with fail
   go_region_with (
    go_at_call 241;refine(Z.o _ ?hbz).mono ?_
    case hbz=>exact D.drew
    rintro e w3⟨val,r,i⟩;obtain⟨rfl,n,O⟩:=r.ok rfl;have p:=((i rfl).rd (by dsimp only;omega)).str;dsimp only at p;rw[<-ag.o]at p;clear i r)
   all_goals(
    have I:=h_ ((A.trans_drew).trans n);have L:=h_ O;clear p n O Z A D;go_wp2_with fail;refine(zh8 ps _ pl _ w3 C.o N.o).mono ?_;rintro e w4⟨rfl,hb⟩;have J:=h_ (I.trans (below_grown hb _));have M:=h_ (L.later hb l_);clear hb I L;by_cases hN:shr pl (pl.take x++t)=x
    .have c:=h_ (show R=(pl.take x++t,H,0)from by rw[b.o,Aa (fun h=>h hN)])
     rw[hN];clear hN;go_wp2_with fail;refine(zaD _ _ _).mono ?_;rintro e w5⟨rfl,rfl⟩;have d:=h_ (show Next9 w g v l R (.returned (.string (ps.extract 0 x++Y))) w4 from⟨J.o,.inl ⟨by rw[c.o],_,rfl,by rw[c.o];exact N.o,by rw[c.o];exact M.o⟩⟩);go_wp2;go_ret;exact d.o
    .have c:=h_ (show R=([],H,6)from by rw[b.o,Ab hN])
     have ao:(((shr pl (pl.take x++t):Nat):Int)==(x:Int))=false:=by rw[As];omega
     go_wp2_with fail;refine(zaC g v l H w4 M.o 6 (by decide)).mono ?_;rintro e w5⟨rfl,S,z⟩;have d:=h_ (show Next9 w g v l R (.panicked [{ v:=zaU g 6,recovered:=false}]) w5 from⟨J.trans S,.inr ⟨by rw[c.o];show(6:Nat)≠0;decide,by rw[c.o],by rw[c.o];exact z⟩⟩);clear S z;go_wp2;exact⟨rfl,d.o⟩)
  have c:=h_ (show R=([],H,x2)from by rw[b.o,Aa (by simp),Ab y]);clear j;go_wp2_with fail;go_region_with (
   go_at_call 241;refine(Z.o _ ?hbz).mono ?_
   case hbz=>exact D.drew
   rintro e w3⟨val,r,i⟩;obtain⟨rfl,n,z⟩:=r.no y;have d:=h_ (show Next9 w g v l R (.panicked [{ v:=zaU g x2,recovered:=false}]) w3 from⟨(A.trans_drew).trans n,.inr ⟨by rw[c.o];exact y,by rw[c.o],by rw[c.o];exact z⟩⟩);clear i r n z;refine zwG (a:={ tmps:=#[],defers:=[]}) (w:=w3) ⟨rfl,d.o⟩ ?_)
  all_goals trivial
 obtain⟨rfl,m,z⟩:=r.no hx;have c:=h_ (show R=([],X,x1)from by rw[b.o,Ab hx]);have d:=h_ (show Next9 w g v l R (.panicked [{ v:=zaU g x1,recovered:=false}]) w1 from⟨m,.inr ⟨by rw[c.o];exact hx,by rw[c.o],by rw[c.o];exact z⟩⟩);clear m z r;go_wp2;exact⟨rfl,d.o⟩
end
