/- -/
import Derived.Test.YtlapgdocpndfiaaGreatDoorUBaseA
import Derived.ArgAppend
import Derived.Lib.SliceRun
import Derived.BigRegion
import Derived.WalkSmall
set_option maxHeartbeats 4000000
set_option linter.unusedVariables false
set_option linter.unusedSimpArgs false
set_option maxRecDepth 1000000
namespace Go.Proofs.YtlapgdocpndfiaaGreatDoor
open _root_.Go.Proofs.Tryz
open Go.RowKit
def Plc (w:World) (v v':Value):Prop:=∀ k,v'.ownBlock=some k->v.ownBlock=some k∨w.heap.size<=k
def Tor (w:World) (base:Nat) (v:Value) (l:Bs):Prop :=
 (v=.slice none 0 0/\l=[])∨∃ (g cap:Nat) (cur:Array Value),v=.slice (some ⟨g,0,none⟩) l.length cap/\base<=g/\w.heap[g]?=some (.cells cur 5 (0,0))/\l.length<=cap/\cap<=maxLen/\cap<=cur.size/\cur.toList.take l.length=za6 l
section
variable {w w':World} {base:Nat} {v:Value} {l:Bs}
theorem Own.tor (h:Own w base v l):Tor w base v l:=by
 rcases h.2 with ⟨rfl,hn⟩ | ⟨g,cap,cur,rfl,hbg,hg,hn,hm,hs,ht⟩
 ·exact .inl ⟨rfl,List.eq_nil_of_length_eq_zero hn⟩
 exact .inr ⟨g,cap,cur,rfl,hbg,hg,hn,hm,by simp at hs;omega,by simpa using ht⟩
theorem Tor.cells (h:Tor w base v l) {i:Nat} {u:Value} (hu:(za6 l)[i]?=some u):w.cell? (adr v i)=some u:=by
 rcases h with ⟨rfl,rfl⟩ | ⟨g,cap,cur,rfl,hbg,hg,hn,hm,hs,ht⟩
 ·simp [za6] at hu
 have e:adr (.slice (some ⟨g,0,none⟩) l.length cap) i=⟨g,i,none⟩:=by simp only [adr,Addr.add];split <;> simp_all
 rw [e,cell_of_row _ _ _ _ _ _ hg];rw [<- ht,List.getElem?_take] at hu;split at hu
 ·simpa using hu
 cases hu
theorem Tor.lit (h:Tor w base v l):∃ ao cap,v=.slice ao l.length cap/\l.length<=cap/\(ao=none->cap=0)/\(∀ a,ao=some a->∃ g,a=⟨g,0,none⟩):=by
 rcases h with ⟨rfl,rfl⟩ | ⟨g,cap,cur,rfl,hbg,hg,hn,hm,hs,ht⟩
 ·exact ⟨_,_,rfl,l_,fun _=>rfl,fun a h=>by cases h⟩
 exact ⟨_,_,rfl,hn,(by intro h;cases h),fun a h=>by injection h with h;exact ⟨g,h.symm⟩⟩
theorem Tor.rd (h:Tor w base v l) (hs:l.length<=140737488351232):Rd w v l:=by
 obtain ⟨ao,cap,hv,hc,hn,ha⟩:=h.lit;refine ⟨⟨ao,cap,hv,hc,hn,fun hp=>?_⟩,fun i hi=>h.cells (zkI hi),hs⟩;cases ao with
 | none=>have:=hn rfl;omega
 | some a=>obtain ⟨g,rfl⟩:=ha a rfl;exact ⟨g,0,rfl⟩
theorem Tor.lt (h:Tor w base v l) {k:Nat} (hk:v.ownBlock=some k):base<=k/\k < w.heap.size:=by
 rcases h with ⟨rfl,rfl⟩ | ⟨g,cap,cur,rfl,hbg,hg,hn,hm,hs,ht⟩
 ·cases hk
 cases hk;exact ⟨hbg,(Array.getElem?_eq_some_iff.1 hg).1⟩
theorem Tor.type (h:Tor w base v l) {k:Nat} (hk:v.ownBlock=some k):∃ cur,w.heap[k]?=some (.cells cur 5 (0,0)):=by
 rcases h with ⟨rfl,rfl⟩ | ⟨g,cap,cur,rfl,hbg,hg,hn,hm,hs,ht⟩
 ·cases hk
 cases hk;exact ⟨_,hg⟩
theorem Tor.only {S:Nat->Prop} (h:Tor w base v l) (hO:Only S w w') (hq:∀ q,v.ownBlock=some q->¬ S q):Tor w' base v l:=by
 rcases h with h | ⟨g,cap,cur,rfl,hbg,hg,r⟩
 ·exact .inl h
 exact .inr ⟨g,cap,cur,rfl,hbg,hO.keep hg (hq g rfl),r⟩
theorem Tor.base_le {b':Nat} (h:Tor w base v l) (hb:b'<=base):Tor w b' v l:=by
 rcases h with h | ⟨g,cap,cur,rfl,hbg,r⟩
 ·exact .inl h
 exact .inr ⟨g,cap,cur,rfl,Nat.le_trans hb hbg,r⟩
end
theorem zqU {ops:Array Oper} {Q:Exit->Act->World->Prop} {rest:List Oper} {a:Act} {w:World} {dst:Option Tmp} {ty:TypeId} {pos:String} {aft:Array Edge} {s x:Operand}
  (base:Nat) (sv:Value) (m:Bs) (hs:a.eval s=sv) (ho:Tor w base sv m) (xv:Value) (l:Bs) (hx:a.eval x=xv) (hR:Rd w xv l) (hn:m.length + l.length<=140737488355328) (hbase:base<=w.heap.size)
  (h:∀ v' w',Tor w' base v' (m ++ l)->w.grownBy w' sv.ownBlock->Plc w sv v'->wpList prog ops Q rest (a.put dst v') w') :
  wpList prog ops Q (⟨dst,.call ⟨.builtin .append,#[s,x],#[22,22]⟩,ty,pos,aft,none⟩ :: rest) a w:=by
 obtain ⟨i0,hi,hz0,hz1,hz2⟩:=info_parts zgY;obtain ⟨⟨ao,cap,rfl,hcap,hnil,hsome⟩,hcel,_⟩:=hR;refine wpList_plain rfl fun K hK=>?_;have key:∃ v' w',(Builtin.append_ #[22,22] ty #[sv,.slice ao l.length cap]).run prog w=.ok v' w'/\Tor w' base v' (m ++ l)/\w.grownBy w' sv.ownBlock/\Plc w sv v':=by
  cases ao with
  | none =>
   obtain rfl:cap=0:=hnil rfl;obtain rfl:l=[]:=List.eq_nil_of_length_eq_zero (by omega);refine ⟨sv,w,?_,by simpa using ho,World.grownBy.refl _ _,fun k hk=>.inl hk⟩;rcases ho with ⟨rfl,rfl⟩ | ⟨g,cap,cur,rfl,hbg,hg,hn,hm,hs,ht⟩
   ·simp [Builtin.append_,run_underlying (P:=prog) underlying22,sizeOf,typeInfo,hi,Builtin.lenOf,Builtin.firstCells]
   simp [Builtin.append_,run_underlying (P:=prog) underlying22,sizeOf,typeInfo,hi,Builtin.lenOf,Builtin.firstCells,hn,storeCells]
  | some ad =>
   have hnews:∀ j u,(za6 l)[j]?=some u->w.cell? (ad.add j)=some u:=fun j u hj=>by
    obtain ⟨hj1,rfl⟩:=zbL hj;exact hcel j hj1
   rcases ho with ⟨rfl,rfl⟩ | ⟨g,c,cur,rfl,hbg,hg,hmc,hm,hcs,ht⟩
   ·obtain ⟨v',w',hr,h1,h2,_⟩:=run_append_own (P:=prog) w w.heap.size 22 ty 5 i0 (.int .u8 0) 1 1 underlying22 hi hz0 hz1 hz2 rfl (by decide) (.slice none 0 0) 0 [] (World.ownsRow_nil w _ _ 1) ad l.length cap (za6 l) (by simp [za0]) hnews (zbK l) (by unfold maxLen;simp at hn;omega) (by simp at hn;omega) l_;have hO:Own w' w.heap.size v' ([] ++ l):=(by unfold Own;simpa using h1);exact ⟨v',w',hr,(hO.base hbase).tor,h2,fun k hk=>.inr (World.ownsRow.lt h1 k hk).1⟩
   by_cases hroom:m.length + l.length<=c
   ·have hr:=run_append_room (P:=prog) w 22 ty 5 i0 underlying22 hi g m.length c cur hg ad l.length cap (za6 l) (by rw [hz1];simp [za0]) hnews (zbK l) hroom (by rw [hz1,za0];omega);rw [hz1] at hr;refine ⟨_,_,hr,.inr ⟨g,c,_,by rw [List.length_append],hbg,setRow_heap w g cur _ _ _ hg,by rw [List.length_append];exact hroom,hm,?_,?_⟩,⟨rfl,rfl,rfl,by simp,fun k _ hk=>setRow_other w g k _ (fun e=>hk (by simp [Value.ownBlock,e]))⟩,fun k hk=>.inl hk⟩
    ·simp only [List.size_toArray,List.length_append,List.length_take,List.length_drop,Array.length_toList,za0];omega
    rw [Nat.mul_one,ht,<- zaG,List.length_append];have:m.length + l.length=(za6 (m ++ l)).length:=(by rw [za0,List.length_append]);rw [this];exact List.take_left
   obtain ⟨v',w',hr,h1,h2⟩:=run_append_arg_grows (P:=prog) w 22 ty 5 i0 (.int .u8 0) 1 1 underlying22 hi hz0 hz1 hz2 rfl (by decide) ⟨g,0,none⟩ m.length c (za6 m) (by simp [za0]) (fun j u hj=>by
    have:=Tor.cells (.inr ⟨g,c,cur,rfl,hbg,hg,hmc,hm,hcs,ht⟩:Tor w base (.slice (some ⟨g,0,none⟩) m.length c) m) hj
    exact this) ad l.length cap (za6 l) (by simp [za0]) hnews (by omega) (by unfold maxLen;omega) (by omega)
   have hO:Own w' w.heap.size v' (m ++ l):=(by unfold Own;rw [List.length_append,zaG];exact h1);refine ⟨v',w',hr,(hO.base hbase).tor,⟨h2.os,h2.tape,h2.output,h2.size,fun k hk _=>h2.block k hk (by simp)⟩,fun k hk=>.inr (World.ownsRow.lt h1 k hk).1⟩
 obtain ⟨v',w',hrun,h1,h2,h3⟩:=key;unfold Oper.wp;simp [execOp,resolve,invoke,builtin,hs,hx,hrun,Result.andThen];exact hK _ _ (h v' w' h1 h2 h3)
theorem zw3 {ops:Array Oper} {Q:Exit->Act->World->Prop} {rest:List Oper} {a:Act} {w:World} {dst:Option Tmp} {ty:TypeId} {pos:String} {aft:Array Edge} {d s:Operand}
  (dp:Option Addr) (dLen dCap:Nat) (hd:a.eval d=.slice dp dLen dCap) (sv:Value) (l:Bs) (hs:a.eval s=sv) (hR:Rd w sv l) (hn:l.length<=dLen)
  (g off:Nat) (cur:Array Value) (hg:w.heap[g]?=some (.cells cur 5 (0,0))) (hdp:0 < l.length->dp=some ⟨g,off,none⟩) (hfit:off + l.length<=cur.size)
  (h:∀ w',Hid (w'.heap[g]?=some (.cells (splice cur.toList off (za6 l)).toArray 5 (0,0)))->w.grownBy w' (some g)->wpList prog ops Q rest (a.put dst (.int .i64 (l.length:Int))) w') :
  wpList prog ops Q (⟨dst,.call ⟨.builtin .copy,#[d,s],#[22,22]⟩,ty,pos,aft,none⟩ :: rest) a w:=by
 obtain ⟨⟨ao,cap,rfl,hcap,hnil,hsome⟩,hcel,_⟩:=hR;by_cases h0:l.length=0
 ·have hl:l=[]:=List.eq_nil_of_length_eq_zero h0;subst hl;refine wpList_copy_nothing rfl d s 22 22 rfl 5 underlying22 zj5 dp ao dLen dCap 0 cap hd hs (by simp) ?_;exact h w (h_ (by rw [hg];simp [splice,za6])) (World.grownBy.refl _ _)
 obtain rfl:=hdp (by omega);obtain ⟨b,o,rfl⟩:=hsome (by omega);have hl:(za6 l).length=Nat.min l.length dLen:=by rw [za0];exact (Nat.min_eq_left hn).symm
 refine wpList_copy_own rfl d s 22 22 rfl 5 underlying22 zj5 g off dLen dCap ⟨b,o,none⟩ l.length cap hd hs cur _ hg (za6 l) hl (fun j u hj=>?_) (by rw [za0];exact hfit) (zbK l) ?_
 ·obtain ⟨hj1,rfl⟩:=zbL hj;exact hcel j hj1
 have:=h (w.setRow g (cur.toList.take off ++ (za6 l ++ cur.toList.drop (off + (za6 l).length))).toArray) (h_ (setRow_heap w g cur _ _ _ hg)) ⟨rfl,rfl,rfl,by simp [World.setRow],fun k _ hk=>setRow_other w g k _ (fun e=>hk (by rw [e]))⟩;simpa [goInt,za0] using this
structure Dsk (w:World) (N g:Nat) (v:Value) (l:Bs) (s c:Nat):Prop where
 from_:N<=g
 tor:Tor w N v l
 safe:s<=l.length
 small:l.length<=100000000
 few:c<=1000000
 box:w.heap[g]?=some (.cells #[v,.int .i64 (s:Int),.int .i64 (c:Int)] 143 (0,0))
def DskQ (g:Nat) (v:Value) (q:Nat):Prop:=q=g∨v.ownBlock=some q
section
variable {w w':World} {N g s c:Nat} {v:Value} {l:Bs} {S:Nat->Prop}
theorem Dsk.lt (h:Dsk w N g v l s c):g < w.heap.size:=(Array.getElem?_eq_some_iff.1 h.box).1
theorem Dsk.cells (h:Dsk w N g v l s c):w.cell? ⟨g,0,none⟩=some v/\w.cell? ⟨g,1,none⟩=some (.int .i64 (s:Int))/\w.cell? ⟨g,2,none⟩=some (.int .i64 (c:Int)):=by
 refine ⟨?_,?_,?_⟩ <;> rw [cell_of_row _ _ _ _ _ _ h.box] <;> rfl
theorem Dsk.free (h:Dsk w N g v l s c) (i:Nat):w.frozen? ⟨g,i,none⟩=false:=frozen_of_row _ _ _ _ _ h.box
theorem Dsk.rd (h:Dsk w N g v l s c):Rd w v l:=h.tor.rd (by have:=h.small;omega)
theorem Dsk.away (h:Dsk w N g v l s c):v.ownBlock≠some g:=fun e=>by
 obtain ⟨cur,hc⟩:=h.tor.type e
 rw [h.box] at hc
 injection hc with hc
 injection hc with _ hc _
 exact absurd hc (by decide)
theorem Dsk.q (h:Dsk w N g v l s c) {q:Nat} (hq:DskQ g v q):N<=q/\q < w.heap.size:=by
 rcases hq with rfl | hq
 ·exact ⟨h.from_,h.lt⟩
 exact h.tor.lt hq
theorem Dsk.only (h:Dsk w N g v l s c) (hO:Only S w w') (hS:∀ q,DskQ g v q->¬ S q):Dsk w' N g v l s c :=
 ⟨h.from_,h.tor.only hO fun q hq=>hS q (.inr hq),h.safe,h.small,h.few,hO.keep h.box (hS g (.inl rfl))⟩
theorem Dsk.later (h:Dsk w N g v l s c) (hb:Below w.heap.size w w'):Dsk w' N g v l s c :=
 h.only (S:=fun _=>False) ((Only.refl _ w).below hb l_) fun _ _ h=>h
theorem Dsk.below (h:Dsk w N g v l s c) (hO:Only (DskQ g v) w w'):Below N w w':=hO.toBelow (fun q hq=>(h.q hq).1) (by have:=h.from_;have:=h.lt;omega)
theorem Dsk.base_le15 {N':Nat} (h:Dsk w N g v l s c) (hN:N'<=N):Dsk w N' g v l s c:=⟨Nat.le_trans hN h.from_,h.tor.base_le hN,h.safe,h.small,h.few,h.box⟩
theorem Only.later15 (hb:Below w.heap.size w w'):Only S w w':=(Only.refl S w).below hb l_
theorem Only.by15 {r:Option Nat} (k:w.grownBy w' r) (hr:∀ q,r=some q->S q):Only S w w':=⟨k.os,k.tape,k.output,k.size,fun j h1 h2=>k.block j h1 (fun e=>h2 (hr j e.symm))⟩
theorem Plc.refl (w:World) (v:Value):Plc w v v:=fun _ h=>.inl h
end
def OffB (w:World) (v:Value) (l:Bs) (Q:Nat->Prop):Prop:=Rd w v l/\∀ i,i < l.length->¬ Q (adr v i).block
section
variable {w w':World} {v:Value} {l:Bs} {Q Q' S:Nat->Prop} {base:Nat}
theorem OffB.keep (h:OffB w v l Q) (hk:∀ j,j < w.heap.size->¬ Q j->w'.heap[j]?=w.heap[j]?):OffB w' v l Q :=
 ⟨⟨h.1.shape,fun i hi=>(World.cell?_of_block (hk _ (h.1.block hi) (h.2 i hi))).trans (h.1.cells i hi),h.1.small⟩,h.2⟩
theorem OffB.only (h:OffB w v l Q) (hO:Only S w w') (hS:∀ j,S j->Q j):OffB w' v l Q:=h.keep fun j h1 h2=>hO.block j h1 fun hs=>h2 (hS j hs)
theorem OffB.later (h:OffB w v l Q) (hb:Below w.heap.size w w'):OffB w' v l Q:=h.keep fun j hj _=>hb.block j hj
end
section
variable {w w':World} {N g n:Nat} {s r:Bs} {Q Q' S:Nat->Prop}
end
/- -/
theorem zgI (v:Value) (l:Bs) (w:World) (h:Rd w v l) (hn:l.length<=70368744177664) :
  Calls prog 71 #[v] w (RetB w l):=by
 obtain ⟨ao,cap,hv,hcap,hnil,_⟩:=h.shape;obtain ⟨n9,hn9⟩:=nm_ l.length;rw [<- hn9] at hv hcap;cases ao with
 | none =>
  obtain rfl:cap=0:=hnil rfl;obtain rfl:n9=0:=by omega
  obtain rfl:l=[]:=List.eq_nil_of_length_eq_zero hn9.symm;clear h hnil hcap hn9;subst hv;have hq:=fun u:World=>Lib.run_eql_slice_nil (P:=prog) u 22 5 none 0 0 0 0 underlying22;go_enter func71,ntmps71;go_wp2;go_ret;exact ⟨_,rfl,zaT _ _,Below.refl _ _⟩
 | some ad =>
  subst hv;have hr:=h.later ((Below.refl w.heap.size w).alloc l_ (.cells #[] 5)) l_;have ho:=own_empty w w.heap.size l_;have hb:=(Below.refl w.heap.size w).alloc l_ (.cells #[] 5);clear h hnil hcap hn9;have hq:=fun u:World=>Lib.run_eql_slice_nil (P:=prog) u 22 5 (some ad) n9 cap 0 0 underlying22;go_enter func71,ntmps71;go_wp2_with (with_reducible refine wpl_append w.heap.size _ [] ?hs ho _ l ?hx hr ?hn ?hbase w.heap.size w hb l_ ?_)
  case hs=>rfl
  case hx=>rfl
  case hn=>simp;omega
  case hbase=>simp
  intro v4 w4 ho4 hb4 _;rw [List.nil_append] at ho4;have HO4:=h_ ho4;have HB4:=h_ hb4;clear ho4 hb4 ho hb hr;go_wp2;go_ret;exact ⟨_,rfl,HO4.o,HB4.o⟩
def NwD (w:World) (b:Bs) (e:Ending) (w':World):Prop :=
 ∃ g v,e=.returned (.pointer (some ⟨g,0,none⟩))/\Dsk w' w.heap.size g v b b.length 0/\Below w.heap.size w w'
theorem ztP (v:Value) (b:Bs) (w:World) (h:Rd w v b) (hn:b.length<=100000000) :
  Calls prog 49 #[v] w (NwD w b):=by
 have CL:=h_ (zgI v b w h (by omega));obtain ⟨ao,cap,rfl,_⟩:=h.shape;have hlen:=h.len;clear h;go_enter func49,ntmps49;go_wp2_with fail;refine CL.mono ?_;rintro e w1 ⟨v1,rfl,ho,hb⟩;obtain ⟨a1,n1,rfl,_⟩:=ho.tor.lit;have HO:=h_ ho;have HB:=h_ hb;clear ho hb CL;go_wp2;go_ret;have N:=(Below.refl w1.heap.size w1).alloc l_ (.cells #[.slice a1 b.length n1,.int .i64 (b.length:Int),.int .i64 0] 143);exact ⟨_,_,rfl,⟨HB.size,(HO.later N l_).tor,l_,hn,by omega,heap_alloc_new _ _⟩,HB.trans (N.mono HB.size)⟩
def DkO (w:World) (N g:Nat) (v:Value) (l:Bs) (s c:Nat) (x:Nat) (e:Ending) (w':World):Prop :=
 e=.returned (.int .i64 (x:Int))/\∃ v',Dsk w' N g v' l s c/\Only (DskQ g v) w w'/\Plc w v v'
theorem zrV (N g:Nat) (v:Value) (l:Bs) (s c:Nat) (bv:Value) (b:Bs) (w:World) (h:Dsk w N g v l s c) (hb:Rd w bv b) (hn:l.length + b.length<=100000000) :
  Calls prog 53 #[.pointer (some ⟨g,0,none⟩),bv] w (DkO w N g v (l ++ b) s c 0):=by
 obtain ⟨ao,cap,rfl,_⟩:=h.tor.lit;obtain ⟨ab,cb,rfl,_⟩:=hb.shape;obtain ⟨c0,c1,c2⟩:=h.cells;have HD:=h_ h;have HR:=h_ hb;clear h hb c1 c2;go_enter func53,ntmps53;go_wp2_with (with_reducible refine zqU N _ l ?hs HD.o.tor _ b ?hx HR.o ?hn ?hbase ?_)
 case hs=>rfl
 case hx=>rfl
 case hn=>omega
 case hbase=>have:=HD.from_;have:=HD.lt;omega
 intro v4 w4 ht hg hp;obtain ⟨a4,n4,rfl,_⟩:=ht.lit;rw [List.length_append] at ht hp;have HT:=h_ ht;have HG:=h_ hg;have HP:=h_ hp;have hbox:=(hg.block g HD.lt (fun e=>HD.away e.symm)).trans HD.box;have d0:w4.cell? ⟨g,0,none⟩=some (.slice ao l.length cap):=by rw [cell_of_row _ _ _ _ _ _ hbox];rfl
 have f0:w4.frozen? ⟨g,0,none⟩=false:=frozen_of_row _ _ _ _ _ hbox;have HX:=h_ hbox;clear ht hg hp hbox;go_wp2;go_ret;have hv4:∀ q,(Value.slice a4 (l.length + b.length) n4).ownBlock=some q->¬ q=g:=fun q hq e=>by
  rw [e] at hq;obtain ⟨cur,hc⟩:=HT.type hq;rw [HX.o] at hc;injection hc with hc
  injection hc with _ hc _
  exact absurd hc (by decide)
 have hO:Only (fun q=>q=g) w4 (w4.setCell ⟨g,0,none⟩ (.slice a4 (l.length + b.length) n4)):=(Only.refl (fun q=>q=g) _).setCell (p:=⟨g,0,none⟩) rfl _;refine ⟨rfl,_,⟨HD.from_,HT.only hO hv4,by rw [List.length_append];have:=HD.safe;omega,by rw [List.length_append];exact hn,HD.few,?_⟩,(Only.by15 HG.o fun q hq=>.inr hq).trans (hO.mono fun q hq=>.inl hq),HP.o⟩;exact block_setCell HX.o _
theorem zz9 (N g:Nat) (v:Value) (l:Bs) (s c:Nat) (w:World) (h:Dsk w N g v l s c) :
  Calls prog 57 #[.pointer (some ⟨g,0,none⟩)] w (DkO w N g v l l.length c 0):=by
 obtain ⟨ao,cap,rfl,_⟩:=h.tor.lit;obtain ⟨c0,c1,c2⟩:=h.cells;have f1:=h.free 1;have hlen:=h.rd.len;have HD:=h_ h;clear h c2;go_enter func57,ntmps57;go_wp2;go_ret;have hO:Only (fun q=>q=g) w (w.setCell ⟨g,1,none⟩ (.int .i64 (l.length:Int))):=(Only.refl (fun q=>q=g) _).setCell (p:=⟨g,1,none⟩) rfl _;exact ⟨rfl,_,⟨HD.from_,HD.tor.only hO fun q hq e=>HD.away (by rw [hq,e]),l_,HD.small,HD.few,block_setCell HD.box _⟩,hO.mono fun q hq=>.inl hq,Plc.refl _ _⟩
theorem zvJ (N g:Nat) (v:Value) (l:Bs) (s c:Nat) (w:World) (h:Dsk w N g v l s c) :
  Calls prog 59 #[.pointer (some ⟨g,0,none⟩)] w (RetB w l):=by
 have CL:=h_ (zgI v l w h.rd (by have:=h.small;omega));obtain ⟨ao,cap,rfl,_⟩:=h.tor.lit;obtain ⟨c0,c1,c2⟩:=h.cells;clear h c1 c2;go_enter func59,ntmps59;go_wp2_with fail;refine CL.mono ?_;rintro e w1 ⟨v1,rfl,ho,hb⟩;have HO:=h_ ho;have HB:=h_ hb;clear ho hb CL;go_wp2;go_ret;exact ⟨_,rfl,HO.o,HB.o⟩
def crE (n:Nat) (k:Int) (m:Nat):Nat:=if k < 0∨(n:Int) < k then 3 else if (n:Int) < k + m then 7 else 0
def crL (l:Bs) (s:Nat) (k:Int) (j:Bs):Bs:=if crE (l.length - s) k j.length=0 then l.take (s + k.toNat) ++ j else l
def crS (l:Bs) (s:Nat) (k:Int) (j:Bs):Nat:=if crE (l.length - s) k j.length=0 then s + k.toNat + j.length else s
def crC (l:Bs) (s:Nat) (k:Int) (j:Bs) (c:Nat):Nat:=if crE (l.length - s) k j.length=0 then c + 1 else c
theorem zD8 {w':World} {base:Nat} {g cap:Nat} {l:Bs} {cur:Array Value} {x:Nat} {j:Bs} (hx:x + j.length<=l.length) (hbg:base<=g) (hn:l.length<=cap) (hm:cap<=maxLen) (hs:cap<=cur.size) (ht:cur.toList.take l.length=za6 l)
  (hg:w'.heap[g]?=some (.cells (splice cur.toList x (za6 j)).toArray 5 (0,0))):Tor w' base (.slice (some ⟨g,0,none⟩) (x + j.length) (x + j.length)) (l.take x ++ j):=by
 have e:(l.take x ++ j).length=x + j.length:=by rw [List.length_append,List.length_take];omega
 have hcl:cur.toList.length=cur.size:=Array.length_toList;refine .inr ⟨g,x + j.length,_,by rw [e],hbg,hg,by rw [e];exact l_,by omega,?_,?_⟩
 ·rw [List.size_toArray,length_splice _ _ _ (by rw [za0];omega)];omega
 rw [e,zaG];have e2:(za6 (l.take x)).length=x:=by rw [za0,List.length_take];omega
 have e3:cur.toList.take x=za6 (l.take x):=by
  have h1:=congrArg (List.take x) ht;rw [List.take_take,Nat.min_eq_left (by omega)] at h1;rw [h1];simp [za6]
 unfold splice;rw [e3,<- List.append_assoc];refine List.take_left' ?_;rw [List.length_append,e2,za0]
theorem zvI (N g:Nat) (v:Value) (l:Bs) (s c:Nat) (k:Int) (jv:Value) (j:Bs) (w:World) (h:Dsk w N g v l s c) (hj0:OffB w jv j (DskQ g v)) (hk:-9223372036854775808<=k/\k<=9223372036854775807) (hc:c < 1000000) :
  Calls prog 58 #[.pointer (some ⟨g,0,none⟩),.int .i64 k,jv] w (DkO w N g v (crL l s k j) (crS l s k j) (crC l s k j c) (crE (l.length - s) k j.length)):=by
 have hj:=hj0.1;obtain ⟨aj,cj,rfl,hcj,hjn,hjs⟩:=hj.shape;have hjl:=hj.len;have hlen:=h.rd.len;have hsafe:=h.safe;have hsmall:=h.small;have hjsm:=hj.small;have HD:=h_ h;have HJ:=h_ (fun m u=>(hj0.only (S:=DskQ g v) ((Only.later15 (Go.below_drewN (Below.refl w.heap.size w) m)).setCell (p:=⟨g,0,none⟩) (.inl rfl) u) (fun _ h=>h)).1);clear hj0 hcj hjn hjs;unfold crL crS crC;by_cases h1:k < 0∨((l.length - s:Nat):Int) < k
 ·have hE:crE (l.length - s) k j.length=3:=if_pos h1;rw [hE,if_neg (by decide),if_neg (by decide),if_neg (by decide)];obtain ⟨ao,cap,rfl,_⟩:=h.tor.lit;obtain ⟨c0,c1,c2⟩:=h.cells;have fin:∀ m,DkO w N g (.slice ao l.length cap) l s c 3 (.returned (.int .i64 3)) (w.drewN m):=fun m =>
   have hb:=Go.below_drewN (Below.refl w.heap.size w) m
   ⟨rfl,_,HD.later hb,Only.later15 hb,Plc.refl _ _⟩
  have FIN:=h_ fin;clear h hj hE c2 fin;go_enter func58,ntmps58;go_wp2;go_quiet (fail);by_cases hk0:k < 0
  ·go_wp2;go_ret;exact FIN.o _
  have hk1:(l.length:Int) - (s:Int) < k:=by omega
  go_wp2;go_ret;exact FIN.o _
 obtain ⟨kk,rfl⟩:∃ kk:Nat,k=(kk:Int):=⟨k.toNat,by omega⟩;have hkk:s + kk<=l.length:=by omega
 by_cases h2:((l.length - s:Nat):Int) < (kk:Int) + (j.length:Int)
 ·have hE:crE (l.length - s) (kk:Int) j.length=7:=by unfold crE;rw [if_neg h1,if_pos h2]
  rw [hE,if_neg (by decide),if_neg (by decide),if_neg (by decide)];obtain ⟨ao,cap,rfl,_⟩:=h.tor.lit;obtain ⟨c0,c1,c2⟩:=h.cells;have fin:∀ m,DkO w N g (.slice ao l.length cap) l s c 7 (.returned (.int .i64 7)) (w.drewN m):=fun m =>
   have hb:=Go.below_drewN (Below.refl w.heap.size w) m
   ⟨rfl,_,HD.later hb,Only.later15 hb,Plc.refl _ _⟩
  have FIN:=h_ fin;clear h hj hE c2 fin h1;go_enter func58,ntmps58;go_wp2;go_quiet (fail);go_wp2;go_ret;exact FIN.o _
 have hE:crE (l.length - s) (kk:Int) j.length=0:=by unfold crE;rw [if_neg h1,if_neg h2]
 rw [hE,if_pos rfl,if_pos rfl,if_pos rfl,Int.toNat_natCast];have hfit:s + kk + j.length<=l.length:=by omega
 obtain ⟨c0,c1,c2⟩:=h.cells;have f0:=h.free 0;have f1:=h.free 1;have f2:=h.free 2;have hcc:(c:Int) + 1<=1000000:=by omega
 have hT:=HD.tor;rcases hT with ⟨rfl,rfl⟩ | ⟨b,cap,cur,rfl,hNb,hb,hlc,hmx,hcs,hcur⟩
 ·simp only [List.length_nil] at hfit;obtain rfl:j=[]:=List.eq_nil_of_length_eq_zero (by omega);obtain rfl:s=0:=by omega
  obtain rfl:kk=0:=by omega
  have hsl:∀ u,(Instr.slice 22 (.slice none 0 0) none (some (.int .i64 0)) (some (.int .i64 0))).run prog u=.ok (.slice none 0 0) u:=fun u=>by
   have:=run_slice_hm (P:=prog) u 22 none 0 0 underlying22 .i64 .i64 0 0 (by omega) (by omega) (by omega);rw [this];simp [go_sem,Result.andThen,sliced]
  have hsf:∀ u,(Instr.slice 22 (.slice none 0 0) (some (.int .i64 0)) none none).run prog u=.ok (.slice none 0 0) u:=fun u=>by
   have:=run_slice_l (P:=prog) u 22 none 0 0 underlying22 .i64 0 (by omega) (by omega);rw [this];simp [go_sem,Result.andThen,sliced]
  have fin:∀ m,DkO w N g (.slice none 0 0) (List.take 0 [] ++ []) 0 (c + 1) 0 (.returned (.int .i64 0)) ((((w.drewN m).setCell ⟨g,0,none⟩ (.slice none 0 0)).setCell ⟨g,1,none⟩ (.int .i64 0)).setCell ⟨g,2,none⟩ (.int .i64 ((c:Int) + 1))):=fun m=>by
   have hO:Only (fun q=>q=g) w ((((w.drewN m).setCell ⟨g,0,none⟩ (.slice none 0 0)).setCell ⟨g,1,none⟩ (.int .i64 0)).setCell ⟨g,2,none⟩ (.int .i64 ((c:Int) + 1))) :=
    (((Only.later15 (S:=fun q=>q=g) (Go.below_drewN (Below.refl w.heap.size w) m)).setCell (p:=⟨g,0,none⟩) rfl _).setCell (p:=⟨g,1,none⟩) rfl _).setCell (p:=⟨g,2,none⟩) rfl _
   exact ⟨rfl,_,⟨HD.from_,.inl ⟨rfl,rfl⟩,Nat.zero_le _,Nat.zero_le _,hc,block_setCell (block_setCell (block_setCell (w:=w.drewN m) HD.box _) _) _⟩,hO.mono fun q hq=>.inl hq,Plc.refl _ _⟩
  have FIN:=h_ fin;clear h hj hE h1 h2 fin;simp only [List.length_nil] at *;go_enter func58,ntmps58;go_wp2;go_quiet (fail);obtain ⟨m,hm⟩:=nm_ ((2:Nat));go_wp2_with (with_reducible refine wpList_copy_nothing rfl _ _ 22 22 rfl 5 underlying22 zj5 none aj 0 0 0 cj ?hd ?hs (by simp) ?_)
  case hd=>rfl
  case hs=>rfl
  go_wp2;go_ret;exact FIN.o _
 obtain ⟨dp,hsf,hdp,_⟩:=zlG (some ⟨b,0,none⟩) (s + kk + j.length) (s + kk + j.length) (s + kk) (by omega) l_;have hsl:∀ u,(Instr.slice 22 (.slice (some ⟨b,0,none⟩) l.length cap) none (some (.int .i64 ((s:Int) + (kk:Int) + (j.length:Int)))) (some (.int .i64 ((s:Int) + (kk:Int) + (j.length:Int))))).run prog u=.ok (.slice (some ⟨b,0,none⟩) (s + kk + j.length) (s + kk + j.length)) u:=fun u=>by
  rw [run_slice_hm (P:=prog) u 22 (some ⟨b,0,none⟩) l.length cap underlying22 .i64 .i64 ((s:Int) + (kk:Int) + (j.length:Int)) ((s:Int) + (kk:Int) + (j.length:Int)) (by omega) (by omega) (by omega)];rw [show (((s:Int) + (kk:Int) + (j.length:Int))).toNat=s + kk + j.length from by omega];simp [go_sem,Result.andThen,sliced]
 rw [show ((s + kk:Nat):Int)=(s:Int) + (kk:Int) from by omega] at hsf;rw [show s + kk + j.length - (s + kk)=j.length from by omega] at hsf;have d1:decide ((kk:Int) > (l.length:Int) - (s:Int))=false:=decide_eq_false (by omega);have d2:decide ((j.length:Int) > (l.length:Int) - (s:Int) - (kk:Int))=false:=decide_eq_false (by omega);have HE:=h_ hE;have HDP:=h_ (show 0 < j.length->dp=some ⟨b,s + kk,none⟩ from fun hp=>by have:=hdp b 0 rfl (by omega);rwa [Nat.zero_add] at this);have HBX:=h_ (And.intro hNb (And.intro hb (And.intro hlc (And.intro hmx (And.intro hcs hcur)))));have HCC:=h_ hc;have hbg:b≠g:=fun e=>HD.away (by rw [e];rfl);have HBG:=h_ hbg;have HBM:=h_ (fun m u=>show ((w.drewN m).setCell ⟨g,0,none⟩ u).heap[b]?=some (.cells cur 5 (0,0)) from (Below.heap_setCell _ _ _ _ hbg).trans hb);have HFT:=h_ hfit;clear h hj hE h1 h2 hdp hNb hb hlc hmx hcs hcur hk hc hjsm hcc hbg;go_enter func58,ntmps58;go_wp2;go_quiet (fail);go_wp2_with (with_reducible refine zw3 dp j.length j.length ?hd _ j ?hs (HJ.o _ _) l_ b (s + kk) cur (HBM.o _ _) HDP.o ?hf ?_)
 case hd=>rfl
 case hs=>rfl
 case hf=>have:=HBX.2.2.2.2.1;have:=HBX.2.2.1;have:=HFT.o;omega
 intro w5 hcp hgr;have HG5:=h_ hgr;have hbox:w5.heap[g]?=some (.cells #[.slice (some ⟨b,0,none⟩) (s + kk + j.length) (s + kk + j.length),.int .i64 (s:Int),.int .i64 (c:Int)] 143 (0,0)) :=
  (hgr.block g (by simp [World.setCell];exact HD.lt) (fun e=>HBG.o (by injection e with e;exact e.symm))).trans (block_setCell (w:=w.drewN nq) HD.box _)
 have d1:w5.cell? ⟨g,1,none⟩=some (.int .i64 (s:Int)):=by rw [cell_of_row _ _ _ _ _ _ hbox];rfl
 have d2:w5.cell? ⟨g,2,none⟩=some (.int .i64 (c:Int)):=by rw [cell_of_row _ _ _ _ _ _ hbox];rfl
 have g1:w5.frozen? ⟨g,1,none⟩=false:=frozen_of_row _ _ _ _ _ hbox;have g2:w5.frozen? ⟨g,2,none⟩=false:=frozen_of_row _ _ _ _ _ hbox;have HX:=h_ hbox;clear hgr hbox c0 c1 c2 f0 f1 f2;have hc:=HCC.o;go_wp2;go_ret;obtain ⟨hNb,hb,hlc,hmx,hcs,hcur⟩:=HBX.o;have hO1:Only (DskQ g (.slice (some ⟨b,0,none⟩) l.length cap)) w w5:=((Only.later15 (Go.below_drewN (Below.refl w.heap.size w) nq)).setCell (p:=⟨g,0,none⟩) (.inl rfl) _).trans (Only.by15 HG5.o fun q hq=>.inr hq);have hO2:Only (fun q=>q=g) w5 ((w5.setCell ⟨g,1,none⟩ (.int .i64 ((s:Int) + (kk:Int) + (j.length:Int)))).setCell ⟨g,2,none⟩ (.int .i64 ((c:Int) + 1))) :=
  ((Only.refl (fun q=>q=g) _).setCell (p:=⟨g,1,none⟩) rfl _).setCell (p:=⟨g,2,none⟩) rfl _
 have hle:(l.take (s + kk) ++ j).length=s + kk + j.length:=by rw [List.length_append,List.length_take];omega
 refine ⟨rfl,.slice (some ⟨b,0,none⟩) (s + kk + j.length) (s + kk + j.length),⟨HD.from_,zD8 hfit hNb hlc hmx hcs hcur (hO2.keep hcp.o fun e=>HBG.o e),by rw [hle];exact l_,by rw [hle];omega,hc,?_⟩,hO1.trans (hO2.mono fun q hq=>.inl hq),fun q hq=>.inl hq⟩;have:=block_setCell (k:=2) (block_setCell (k:=1) HX.o (.int .i64 ((s:Int) + (kk:Int) + (j.length:Int)))) (.int .i64 ((c:Int) + 1));refine this.trans ?_;rfl
