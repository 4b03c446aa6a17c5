/- -/
import Derived.Test.YtgboedffaangeaaGreatDoorProg
import Derived.WalkKit
import Derived.WalkSpells
import Derived.WalkLawsBesides
import Derived.Laws.CopyOwn
import Derived.Laws.AppendOwnNone
import Derived.Lib.Hide
import Derived.BigQuiet
import Derived.Test.YtgboedffaangeaaGreatDoorRows
import Derived.ProofKit
import Derived.OpenShut
import Derived.ShutString
import Derived.ChangeOld
import Derived.SizedLaws
import Derived.Lib.Strings
import Derived.Below
import Derived.Deep.RegionHeld3
set_option maxHeartbeats 4000000
set_option linter.all false
set_option maxRecDepth 1000000
namespace Go.Proofs.YtgboedffaangeaaGreatDoor
open _root_.Go.Proofs.Tryz
variable {a:Act} {aft:Array Edge} {ops:Array Oper} {Q:Exit->Act->World->Prop} {rest:List Oper} {B g i k n:Nat} {z:Nat×Nat} {d s:Operand} {dst:Option Tmp} {P:Prop} {pos:String} {v:Value} {w w':World}
open Go.RowKit in
def h_(h:P):Hid P:=Lib.hid h
def l_:n≤n:=Nat.le_refl n
def nm_{α:Sort _}(x:α):∃n,n=x:=⟨_,rfl⟩
open Go.RowKit in
def bT {a b:World}(h:Hid (Below w.heap.size w a))(k:Below a.heap.size a b):Hid (Below w.heap.size w b):=h.out.trans (k.mono h.out.size)
def _root_.Go.RowKit.Hid.o(h:Go.RowKit.Hid P):P:=h.out
abbrev Bs:=List UInt8
open Go.RowKit
def cellB(b:UInt8):Value:=.int .u8 (b.toNat:Int)
def za7(l:Bs):List Value:=l.map cellB
def at8(l:Bs)(i:Nat):Int:=((l.getD i 0).toNat:Int)
def adr:Value->Nat->Addr
 | .slice (some a) _ _,i=>a.add i
 | _,_=>default
def zfB(l:Bs)(i:Nat):0<=at8 l i:=by unfold at8;omega
def zdG(l:Bs)(i:Nat):at8 l i<=255:=by
 unfold at8;have:=(l.getD i 0).toNat_lt;omega
def ziY{l:Bs}(h:i<l.length):at8 l i=(l[i].toNat:Int):=by
 unfold at8;simp[List.getD,h]
def za1(l:Bs):(za7 l).length=l.length:=by simp[za7]
def zaG(l m:Bs):za7 (l++m)=za7 l++za7 m:=by simp[za7]
def zbL(l:Bs):∀u∈za7 l,u.oneCell'=true:=by
 intro u b;obtain⟨_,_,rfl⟩:=List.mem_map.1 b;rfl
def zbM{l:Bs}{u:Value}(h:(za7 l)[i]?=some u):i<l.length/\u=.int .u8 (at8 l i):=by
 have b:i<l.length:=by
  have:=(List.getElem?_eq_some_iff.1 h).1;simpa[za7]using this
 refine⟨b,?_⟩;rw[ziY b];simp[za7,b]at h;exact h.symm
def zlW{l:Bs}(b:i<l.length):(za7 l)[i]?=some (.int .u8 (at8 l i)):=by
 rw[ziY b];simp[za7,b,cellB]
structure Rd(w:World)(v:Value)(l:Bs):Prop where
 shape:∃ao cap,v=.slice ao l.length cap/\l.length<=cap/\(ao=none->cap=0)/\(0<l.length->∃b o,ao=some ⟨b,o,none⟩)
 cells:∀i,i<l.length->w.cell? (adr v i)=some (.int .u8 (at8 l i))
 small:l.length<=140737488351232
def Own(w:World)(base:Nat)(v:Value)(l:Bs):Prop:=w.ownsRow base 5 1 v l.length (za7 l)
def Rd.block{w:World}{v:Value}{l:Bs}(h:Rd w v l){i:Nat}(b:i<l.length):(adr v i).block<w.heap.size :=
 World.block_lt_of_cell? w _ (h.cells i b)
def zJ3{l:Bs}(h:Rd w v l)(i j:Nat)(d:j<l.length):(adr v i).block=(adr v j).block:=by
 obtain⟨⟨c,cap,rfl,_,_,hp⟩,_,_⟩:=h;obtain⟨b,o,rfl⟩:=hp (by omega);simp[adr,Addr.add];split<;>split<;>rfl
def Rd.later{l:Bs}(h:Rd w v l)(d:Below B w w')(c:w.heap.size<=B):Rd w' v l :=
 ⟨h.shape,fun i b=>by rw[d.cell (Nat.lt_of_lt_of_le (h.block b) c)];exact h.cells i b,h.small⟩
def Rd.drew{w:World}{v:Value}{l:Bs}(h:Rd w v l):Rd w.drew v l:=⟨h.shape,h.cells,h.small⟩
def Rd.alloc{w:World}{v:Value}{l:Bs}(h:Rd w v l)(o:Obj):Rd (w.alloc o) v l :=
 h.later ((Below.refl w.heap.size w).alloc (Nat.le_refl _) o) (Nat.le_refl _)
def Rd.nil(w:World):Rd w (.slice none 0 0) [] :=
 ⟨⟨none,0,rfl,Nat.le_refl _,fun _=>rfl,fun h=>absurd h (by simp)⟩,fun i b=>absurd b (by simp),by simp⟩
def Own.rd{base:Nat}{l:Bs}(h:Own w base v l)(j:l.length<=140737488351232):Rd w v l:=by
 have e:=fun g=>World.ownsRow.cells (g:=g) h;obtain⟨_,d⟩:=h;rcases d with⟨rfl,b⟩|⟨g,cap,c,rfl,_,k,b,hm,_⟩
 .have:l=[]:=List.eq_nil_of_length_eq_zero b;subst this;exact Rd.nil w
 refine⟨⟨_,cap,rfl,b,(by intro h;cases h),fun _=>⟨g,0,rfl⟩⟩,fun i f=>?_,j⟩;exact e g rfl i _ (zlW f)
def Own.later {base:Nat}{l:Bs}(h:Own w base v l)(i:Below B w w')(f:w.heap.size<=B):Own w' base v l:=by
 refine⟨h.1,?_⟩;rcases h.2 with e|⟨g,cap,b,rfl,c,d,r⟩
 .exact .inl e
 refine .inr ⟨g,cap,b,rfl,c,?_,r⟩;rw[i.block g (Nat.lt_of_lt_of_le (Array.getElem?_eq_some_iff.1 d).1 f)];exact d
def Own.base{w:World}{base base':Nat}{v:Value}{l:Bs}(h:Own w base v l)(e:base'<=base):Own w base' v l:=by
 refine⟨h.1,?_⟩;rcases h.2 with d|⟨g,cap,b,rfl,c,r⟩
 .exact .inl d
 exact .inr ⟨g,cap,b,rfl,Nat.le_trans e c,r⟩
def Rd.len{l:Bs}(h:Rd w v l):∀u,(Builtin.len_ #[34] 3 #[v]).run prog u=.ok (.int .i64 (l.length:Int)) u:=by
 intro u;obtain⟨⟨b,cap,rfl,_⟩,_,_⟩:=h;exact run_len_slice u _ _ b _ _ underlying34
def Rd.idx{l:Bs}(h:Rd w v l)(i:Nat)(d:i<l.length):∀u,(Instr.indexAt 34 v (.int .i64 (i:Int))).run prog u=.ok (.pointer (some (adr v i))) u:=by
 intro u;obtain⟨⟨c,cap,rfl,_,_,hp⟩,_,_⟩:=h;obtain⟨b,o,rfl⟩:=hp (by omega);have:=run_indexAt_slice (P:=prog) u 34 ⟨b,o,none⟩ l.length cap .i64 i underlying34;rw[this,if_pos ⟨by omega,by omega⟩];simp[go_sem,Result.andThen,adr]
def zk4:(prog.info? 5).map (·.size)=some 1:=by kernel_rfl
def zgB:(prog.info? 5).map (fun i=>(i.zero,i.size,i.bytes))=some (some (.int .u8 0),1,1):=by kernel_rfl
def zgT(b l:Bs)(off:Nat):splice (za7 b) off (za7 l)=za7 (splice b off l):=by
 simp[splice,za7]
def zv2{ty:TypeId}(p:Option Addr)(c f:Nat)(O:a.eval d=.slice p c f)(J:Value)(l:Bs)(V:a.eval s=J)(M:Rd w J l)(U:l.length<=c)(g off:Nat)(e:Bs)(S:w.heap[g]?=some (.cells (za7 e).toArray 5 (0,0)))(y:0<l.length->p=some ⟨g,off,none⟩)(m:off+l.length<=e.length)(B:Nat)(D:World)(N:Below B D w)(r:B<=g)(h:∀w',Hid (w'.heap[g]?=some (.cells (za7 (splice e off l)).toArray 5 (0,0)))->Below B D w'->wpList prog ops Q rest (a.put dst (.int .i64 (l.length:Int))) w') :wpList prog ops Q (⟨dst,.call ⟨.builtin .copy,#[d,s],#[34,34]⟩,ty,pos,aft,none⟩::rest) a w:=by
 obtain⟨⟨L,cap,rfl,G,I,i⟩,k,_⟩:=M;refine wpList_copy_splice rfl d s 34 34 rfl 5 underlying34 zk4 p L c f l.length cap O V g off (za7 e) 5 S (za7 l) ?_ ?_ ?_ (zbL l) B D N r ?_
 .rw[za1];exact(Nat.min_eq_left U).symm
 .intro hp;rw[za1]at hp;obtain⟨b,o,rfl⟩:=i hp;refine⟨y hp,_,rfl,fun j u T=>?_⟩;obtain⟨A,rfl⟩:=zbM T;exact k j A
 .simpa[za1]using m
 intro w' n t;rw[zgT]at n;have:=h w' n t;simpa[goInt,za1]using this
def wpl_copy_part{ty:TypeId}(y:Option Addr)(c k:Nat)(T:a.eval d=.slice y c k)(M:Value)(l:Bs)(Y:a.eval s=M)(O:Rd w M l)(X:c<=l.length)(g off:Nat)(i:Bs)(U:w.heap[g]?=some (.cells (za7 i).toArray 5 (0,0)))(G:0<c->y=some ⟨g,off,none⟩)(p:off+c<=i.length)(B:Nat)(I:World)(S:Below B I w)(A:B<=g)(h:∀w',Hid (w'.heap[g]?=some (.cells (za7 (splice i off (l.take c))).toArray 5 (0,0)))->Below B I w'->wpList prog ops Q rest (a.put dst (.int .i64 (c:Int))) w') :wpList prog ops Q (⟨dst,.call ⟨.builtin .copy,#[d,s],#[34,34]⟩,ty,pos,aft,none⟩::rest) a w:=by
 obtain⟨⟨N,cap,rfl,J,L,m⟩,n,_⟩:=O;have f:(l.take c).length=c:=by simp;omega
 refine wpList_copy_splice rfl d s 34 34 rfl 5 underlying34 zk4 y N c k l.length cap T Y g off (za7 i) 5 U (za7 (l.take c)) ?_ ?_ ?_ (zbL _) B I S A ?_
 .rw[za1,f];exact(Nat.min_eq_right X).symm
 .intro hp;rw[za1,f]at hp;obtain⟨b,o,rfl⟩:=m (by omega);refine⟨G hp,_,rfl,fun j u V=>?_⟩;obtain⟨t,rfl⟩:=zbM V;rw[f]at t;have e:at8 (l.take c) j=at8 l j:=by
   unfold at8;simp only[List.getD];rw[List.getElem?_take_of_lt t]
  rw[e];exact n j (by omega)
 .rw[za1,za1,f];exact p
 intro w' r D;rw[zgT]at r;have:=h w' r D;rw[za1,f];exact this
def wpl_append{ty:TypeId} {x:Operand}(base:Nat)(c:Value)(m:Bs)(L:a.eval s=c)(f:Own w base c m)(S:Value)(l:Bs)(M:a.eval x=S)(U:Rd w S l)(Y:m.length+l.length<=140737488355328)(b:base<=w.heap.size)(B:Nat)(O:World)(G:Below B O w)(i:B<=base)(h:∀g w',Own w' base g (m++l)->Below B O w'->w.grownBy w' c.ownBlock->wpList prog ops Q rest (a.put dst g) w') :wpList prog ops Q (⟨dst,.call ⟨.builtin .append,#[s,x],#[34,34]⟩,ty,pos,aft,none⟩::rest) a w:=by
 obtain⟨N,J,r,t,y⟩:=info_parts zgB;obtain⟨⟨T,cap,rfl,I,e,p⟩,d,_⟩:=U;cases T with
 | none=>
  obtain rfl:cap=0:=e rfl;obtain rfl:l=[]:=List.eq_nil_of_length_eq_zero (by omega);refine wpList_append_own_none rfl s x 34 rfl base 5 N 1 underlying34 J c m.length (za7 m) L f (by simpa using M) ?_;exact h c w (by simpa using f) G (World.grownBy.refl _ _)
 | some ad=>
  refine wpList_append_own w rfl s x 34 rfl base 5 N (.int .u8 0) 1 1 underlying34 J r t y rfl (by decide) c m.length (za7 m) L f ad l.length cap (za7 l) M (by simp[za1]) ?_ (zbL l) (by unfold maxLen;omega) (by omega) b ?_
  .intro j u V;obtain⟨n,rfl⟩:=zbM V;exact d j n
  intro g w' A D _;refine h g w' ?_ (G.grown D (by omega) fun k X=>?_) D
  .rw[<-zaG]at A;unfold Own;rw[List.length_append];exact A
  exact Nat.le_trans i (World.ownsRow.lt f k X).1
def zqZ(w:World)(c:Int)(d:0<=c)(f:c<=255):Rd (w.alloc (.cells #[.int .u8 c] 5)) (.slice (some ⟨w.heap.size,0,none⟩) 1 1) [UInt8.ofNat c.toNat]:=by
 refine⟨⟨_,1,rfl,Nat.le_refl _,(by intro h;cases h),fun _=>⟨_,_,rfl⟩⟩,fun i b=>?_,by simp⟩;obtain rfl:i=0:=by simpa using b
 have e:at8 [UInt8.ofNat c.toNat] 0=c:=by
  simp[at8];omega
 rw[e];simp[adr,Addr.add]
def zmU(e:Option Addr)(n c d:Nat)(h:d<=n)(j:n<=c):∃f,(∀u,(Instr.slice 34 (.slice e n c) (some (.int .i64 (d:Int))) none none).run prog u=.ok (.slice f (n-d) (c-d)) u) /\(∀b o,e=some ⟨b,o,none⟩->d<c->f=some ⟨b,o+d,none⟩)/\(e=none->f=none):=by
 refine⟨if c=d then e else e.map (·.add d),fun u=>?_,fun b o g i=>?_,fun g=>?_⟩
 .rw[run_slice_l (P:=prog) u 34 e n c underlying34 .i64 d (by omega) (by omega)];simp[go_sem,Result.andThen,sliced]
 .subst g;rw[if_neg (by omega)];simp[Addr.add]
 subst g;simp
def Rd.cut{l:Bs}(h:Rd w v l)(c f:Nat)(J:c<=f)(L:f<=l.length) :∃y,(∀u,(Instr.slice 34 v (some (.int .i64 (c:Int))) (some (.int .i64 (f:Int))) none).run prog u=.ok y u)/\∀w',Rd w' v l->Rd w' y ((l.take f).drop c):=by
 obtain⟨⟨g,cap,rfl,r,m,e⟩,t,I⟩:=h;refine⟨.slice (if cap=c then g else g.map (·.add c)) (f-c) (cap-c),fun u=>?_,fun w' D=>?_⟩
 .rw[run_slice_lh (P:=prog) u 34 g l.length cap underlying34 .i64 .i64 c f (by omega) (by omega) (by omega)];simp[go_sem,Result.andThen,sliced]
 have d:((l.take f).drop c).length=f-c:=by simp;omega
 have j:∀b o,0<f-c->g=some ⟨b,o,none⟩->(if cap=c then g else g.map (·.add c))=some ⟨b,o+c,none⟩:=by
  intro b o hp k;subst k;rw[if_neg (by omega)];simp[Addr.add]
 refine⟨⟨_,_,by rw[d],by rw[d];omega,?_,?_⟩,?_,by rw[d];omega⟩
 .intro G;by_cases n:cap=c
  .omega
  rw[if_neg n]at G;have:g=none:=by cases g<;>simp_all
  have:=m this;omega
 .intro hp;rw[d]at hp;obtain⟨b,o,k⟩:=e (by omega);exact⟨b,o+c,j b o hp k⟩
 intro i p;rw[d]at p;obtain⟨b,o,k⟩:=e (by omega);have n:=D.cells (c+i) (by omega);rw[j b o (by omega) k];subst k;have A:adr (.slice (some ⟨b,o+c,none⟩) (f-c) (cap-c)) i=adr (.slice (some ⟨b,o,none⟩) l.length cap) (c+i):=by
  simp only[adr,Addr.add];split<;>split<;>simp_all<;>omega
 rw[A,n];congr 2;unfold at8;simp[List.getD];rw[List.getElem?_take_of_lt (by omega)]
def Rd.from{l:Bs}(h:Rd w v l)(b:Nat)(k:b<=l.length) :∃c,(∀u,(Instr.slice 34 v (some (.int .i64 (b:Int))) none none).run prog u=.ok c u)/\∀w',Rd w' v l->Rd w' c (l.drop b):=by
 obtain⟨c,n,m⟩:=h.cut b l.length k (Nat.le_refl _);refine⟨c,fun u=>?_,fun w' j=>by have:=m w' j;rwa[List.take_length]at this⟩;obtain⟨⟨e,cap,rfl,f,i,d⟩,g,p⟩:=h;rw[<-n u,run_slice_lh (P:=prog) u 34 e l.length cap underlying34 .i64 .i64 b l.length (by omega) (by omega) (by omega),
  run_slice_l (P:=prog) u 34 e l.length cap underlying34 .i64 b (by omega) (by omega)]
 simp
def Rd.upto{l:Bs}(h:Rd w v l)(b:Nat)(k:b<=l.length) :∃c,(∀u,(Instr.slice 34 v none (some (.int .i64 (b:Int))) none).run prog u=.ok c u)/\∀w',Rd w' v l->Rd w' c (l.take b):=by
 obtain⟨c,n,m⟩:=h.cut 0 b (Nat.zero_le _) k;refine⟨c,fun u=>?_,fun w' j=>by have:=m w' j;rwa[List.drop_zero]at this⟩;obtain⟨⟨e,cap,rfl,f,i,d⟩,g,p⟩:=h;rw[<-n u,run_slice_lh (P:=prog) u 34 e l.length cap underlying34 .i64 .i64 ((0:Nat):Int) b (by omega) (by omega) (by omega),
  run_slice_h (P:=prog) u 34 e l.length cap underlying34 .i64 b (by omega) (by omega)]
 simp
def zAG(w:World)(l:Bs)(c:l.length<=140737488351232)(z:Nat×Nat):Rd (w.alloc (.cells (za7 l).toArray 5 z)) (.slice (some ⟨w.heap.size,0,none⟩) l.length l.length) l:=by
 refine⟨⟨_,_,rfl,Nat.le_refl _,(by intro h;cases h),fun _=>⟨_,_,rfl⟩⟩,fun i b=>?_,c⟩;have e:adr (.slice (some ⟨w.heap.size,0,none⟩) l.length l.length) i=⟨w.heap.size,i,none⟩:=by
  simp only[adr,Addr.add];split<;>simp_all
 rw[e,cell_of_row _ _ _ _ _ z (heap_alloc_new w _)];rw[List.getElem?_toArray];exact zlW b
def own_empty(w:World)(base:Nat)(b:base<=w.heap.size):Own (w.alloc (.cells #[] 5)) base (.slice (some ⟨w.heap.size,0,none⟩) 0 0) [] :=
 World.ownsRow_made w #[] 0 b (Nat.zero_le _) (by simp)
def Rd.str{l:Bs}(h:Rd w v l):(convert 34 9 v).run prog w=.ok (.string ⟨l.toArray⟩) w:=by
 obtain⟨⟨m,cap,rfl,j,k,d⟩,f,r⟩:=h;by_cases p:l.length=0
 .obtain rfl:l=[]:=List.eq_nil_of_length_eq_zero p;cases m with
  | none=>exact run_convert_bytes_nil (P:=prog) w 34 5 underlying34 underlying5 0 cap 9 underlying9
  | some a=>
   rw[run_convert_bytes_string w 34 9 5 (some a) _ cap underlying34 underlying5 underlying9];rw[run_bytesToString w a _ cap [] (by simpa using run_loadCells_list (P:=prog) w a [] (by simp))];rfl
 obtain⟨b,o,rfl⟩:=d (by omega);rw[run_convert_bytes_arg (P:=prog) w 34 5 underlying34 underlying5 b o l.length cap (l.map fun c=>(c.toNat:Int)) (by simp) ?_ 9 underlying9]
 .congr 3;simp[strOfNums];have e:((fun n:Int=>UInt8.ofNat n.toNat)∘fun c:UInt8=>(c.toNat:Int))=id:=by funext c;simp
  rw[e,List.map_id]
 intro i g;have:=f i g;have e:adr (.slice (some ⟨b,o,none⟩) l.length cap) i=⟨b,o+i,none⟩:=by
  simp only[adr,Addr.add];split<;>simp_all
 rw[e]at this;rw[this,ziY g];simp[List.getD,g]
def zaE(w:World)(base:Nat):Own w base (.slice none 0 0) []:=World.ownsRow_nil w base _ _
def block_setCell{c:Array Value}{e:TypeId}(h:w.heap[g]?=some (.cells c e z))(u:Value) :(w.setCell ⟨g,k,none⟩ u).heap[g]?=some (.cells (c.setIfInBounds k u) e z):=by
 simp[World.setCell,Array.getElem?_modify,h]
def za0(h:w.grownBy w' (some g))(u:Value):w.grownBy (w'.setCell ⟨g,k,none⟩ u) (some g) :=
 ⟨h.os,h.tape,h.output,by simpa using h.size,fun i c b=>by
  rw[Below.heap_setCell _ _ _ _ (by intro e;exact b (by rw[e]))];exact h.block i c b⟩
def zFX{α:Type}(l m:List α)(u:α)(k:Nat)(c:l.length=k)(hm:0<m.length):(l++m).toArray.setIfInBounds k u=(l++[u]++m.drop 1).toArray:=by
 subst c;cases m with
 | nil=>simp at hm
 | cons b m=>simp
def zF8{l m:List Value}{e:TypeId}(h:w.heap[g]?=some (.cells (l++m).toArray e z))(b:k<l.length):w.cell? ⟨g,k,none⟩=l[k]?:=by
 rw[cell_of_row w g k _ e z h,List.getElem?_toArray,List.getElem?_append_left b]
def zcH {base cap:Nat}{l:Bs}{b:List Value}(c:base<=g)(e:w.heap[g]?=some (.cells b.toArray 5 (0,0)))(f:n=l.length)(d:n<=cap)(hm:cap<=maxLen)(h:b.length=cap)(i:b.take n=za7 l):Own w base (.slice (some ⟨g,0,none⟩) n cap) l:=by
 subst f;refine⟨by simp[za1],.inr ⟨g,cap,_,rfl,c,e,d,hm,by simpa using h,?_⟩⟩;simpa using i
def zfD(n:Int)(e:0<=n)(f:n<=281474976710656)(u:World):(Instr.makeSlice 34 (.int .i64 n) (.int .i64 n)).run prog u = .ok (.slice (some ⟨u.heap.size,0,none⟩) n.toNat n.toNat) (u.alloc (.cells (za7 (List.replicate n.toNat 0)).toArray 5)):=by
 obtain⟨j,g,b,c,d⟩:=info_parts zgB;have h:=run_make (P:=prog) u 34 5 j (.int .u8 0) underlying34 g b .i64 .i64 n n e (Int.le_refl _) (by rw[d];omega) (by omega);rw[h,c];congr 3;simp[madeCells,za7,cellB,Value.cells];apply Array.ext
 .simp
 intro i f k;simp[Nat.mod_one]
def RetB(w:World)(l:Bs)(e:Ending)(w':World):Prop:=∃v,e=.returned v/\Own w' w.heap.size v l/\Below w.heap.size w w'
def Own.alloc{w:World}{base:Nat}{v:Value}{l:Bs}(h:Own w base v l)(o:Obj):Own (w.alloc o) base v l:=World.ownsRow.alloc h o
def zkS(w:World)(base:Nat)(b:base<=w.heap.size)(l:Bs)(c:l.length<=maxLen):Own (w.alloc (.cells (za7 l).toArray 5 (0,0))) base (.slice (some ⟨w.heap.size,0,none⟩) l.length l.length) l :=
 zcH b (heap_alloc_new w _) rfl (Nat.le_refl _) c (by simp[za1]) (List.take_of_length_le (by simp[za1]))
def Own.set{w:World}{base:Nat}{v:Value}{l:Bs}(h:Own w base v l){i:Nat}(m:i<l.length)(b:UInt8) :Own (w.setCell (adr v i) (cellB b)) base v (l.set i b)/\w.frozen? (adr v i)=false/\base<=(adr v i).block:=by
 obtain⟨r,k⟩:=h;rcases k with⟨rfl,f⟩|⟨g,cap,j,rfl,c,d,f,hm,n,p⟩
 .exact absurd m (by omega)
 have e:adr (.slice (some ⟨g,0,none⟩) l.length cap) i=⟨g,i,none⟩:=by
  simp only[adr,Addr.add];split<;>simp_all
 rw[e];refine⟨⟨by simp[za1],.inr ⟨g,cap,_,by simp,c,block_setCell d _,by simp;exact f,hm,by simpa using n,?_⟩⟩,frozen_of_row _ _ _ _ _ d,c⟩;simp only[List.length_set];rw[Array.toList_setIfInBounds,List.take_set,p];simp[za7,List.map_set]
def Own.drew{w:World}{base:Nat}{v:Value}{l:Bs}(h:Own w base v l):Own w.drew base v l:=h.later ((Below.refl w.heap.size w).drew) (Nat.le_refl _)
end Go.Proofs.YtgboedffaangeaaGreatDoor
/- -/
namespace Go.Proofs.YtgboedffaangeaaGreatDoor.OrdR
open _root_.Go.Proofs.Tryz
open Go.RowKit
structure Way(R:World->World->Prop):Prop where
 refl:∀w,R w w
 trans:∀a b c,R a b->R b c->R a c
structure GW(R:World->World->Prop)(w:World) where
 val:World
 grew:R w val
section
variable{R:World->World->Prop}{P:Program}{ops:Array Oper}{Q:Exit->Act->World->Prop}{md:Region.Mode}{z:Option Nat}{C:Array Bool->Prop}
def ztU:Op->Bool
 | .move _|.assign _|.pick .. | .load .. | .binOp .. | .unOp .. | .convert .. | .slice .. | .fieldAddr .. | .field .. | .indexAddr .. | .index .. | .lookup .. | .extract .. | .makeInterface .. | .makeFunc .. | .typeAssert .. | .nilCheck _=>true
 | .call { callee:=.builtin .len,.. }|.call { callee:=.builtin .cap,.. }|.call { callee:=.builtin .min,.. }|.call { callee:=.builtin .max,.. }=>true
 | _=>false
def zAZ{s:Sem Value}{w w':World}{r:Next}(h:(do pure (Next.value (<-s)):Sem Next).run P w=.ok r w'):∃u,r=.value u:=by
 simp only[Sem.run_bind]at h;cases hs:s.run P w with
 | ok a w1=>rw[hs]at h;simp only[Result.andThen,Sem.run_pure]at h;exact⟨a,by injection h with h1 h2;exact h1.symm⟩
 | halt x w1=>rw[hs]at h;simp[Result.andThen]at h
def ztT{o:Oper}(h:ztU o.op=true){ρ:Operand->Value}{w w':World}{r:Next}(d:(execOp ρ o).run P w=.ok r w'):∃u,r=.value u:=by
 obtain⟨dst,g,ty,pos,aft,j⟩:=o;cases g<;>simp only[ztU]at h<;>try (exact absurd h (by decide))
 case call c=>
  obtain⟨e,args,i⟩:=c;cases e with
  | value f=>simp at h
  | invoke r m=>simp at h
  | builtin b=>
   cases b<;>simp at h
   all_goals
    rw[BigFrame.execOp_builtin]at d
    first|rw[BigFrame.builtin_len]at d|rw[BigFrame.builtin_cap]at d|rw[BigFrame.builtin_min]at d|rw[BigFrame.builtin_max]at d
    exact zAZ d
 case nilCheck x=>
  simp only[execOp]at d;split at d
  .exact absurd d (by simp[runtimePanic,goPanic])
  .exact absurd d (by simp[runtimePanic,goPanic])
  .exact absurd d (by simp[runtimePanic,goPanic])
  .split at d
   .exact absurd d (by simp[runtimePanic,goPanic])
   .simp only[Sem.run_bind]at d;cases h1:Sem.run P program w with
    | halt x w1=>rw[h1]at d;simp[Result.andThen]at d
    | ok a w1=>
     rw[h1]at d;simp only[Result.andThen]at d;split at d
     .rename_i b w2 h2;split at d
      .exact absurd d (by simp[unsupported])
      simp only[Sem.run_pure]at d;injection d with h1 h2;exact⟨_,h1.symm⟩
     exact absurd d (by simp)
   simp only[Sem.run_pure]at d;injection d with h1 h2;exact⟨_,h1.symm⟩
  simp only[Sem.run_pure]at d;injection d with h1 h2;exact⟨_,h1.symm⟩
 case move x=>simp only[execOp,Sem.run_pure]at d;injection d with h1 h2;exact⟨_,h1.symm⟩
 case assign x=>simp only[execOp,Sem.run_pure]at d;injection d with h1 h2;exact⟨_,h1.symm⟩
 case pick c a b=>
  simp only[execOp,Sem.run_bind]at d;cases hs:(asBool (ρ c)).run P w with
  | ok a w1=>rw[hs]at d;simp only[Result.andThen]at d;split at d<;>(simp only[Sem.run_pure]at d;injection d with h1 h2;exact⟨_,h1.symm⟩)
  | halt x w1=>rw[hs]at d;simp[Result.andThen]at d
 all_goals exact zAZ (by simpa only[execOp]using d)
def zpY(R:World->World->Prop)(z:Option Nat)(P:Program)(md:Region.Mode)(ops:Array Oper)(Q:Exit->Act->World->Prop):Nat->Array Bool->Act->World->Prop
 | 0,listed,a,w=>Region.ready md ops listed=[]/\Q .normal a w
 | fuel+1,listed,a,w=>
  (Region.ready md ops listed=[]->Q .normal a w) /\
  ∀i∈Region.ready md ops listed,wpOp P ops Q i (fun a' w'=>(some i≠z->R w w')/\zpY R z P md ops Q fuel (listed.setIfInBounds i true) a' w') a w
def zmN:∀(b:Nat)(c:Array Bool)(a:Act)(w:World),zpY R z P md ops Q b c a w->wpAny P md ops Q b c a w
 | 0,_,_,_,h=>h
 | b+1,_,_,_,h=>⟨h.1,fun i f=>wpOp_mono (fun d w' e=>zmN b _ d w' e.2) (h.2 i f)⟩
structure Last(md:Region.Mode)(ops:Array Oper)(z:Option Nat)(C:Array Bool->Prop):Prop where
 set:∀s j,C s->j∈Region.ready md ops s->C (s.setIfInBounds j true)
 alone:∀s i k,C s->i∈Region.ready md ops s->k∈Region.ready md ops s->some k=z->i=k
def zbC(R:World->World->Prop)(P:Program)(ops:Array Oper)(o:Oper)(v:Value)(a:Act)(w:World):Prop :=
 (Region.wanted o (yielded ops a.tmps)=true/\∀w',R w w'->(execOp a.eval o).run P w'=.ok (.value v) w') \/
 (Region.wanted o (yielded ops a.tmps)=false/\v=undef)
def zbC.later(f:Way R){o:Oper}{v:Value}{a:Act}{w w':World}(h:zbC R P ops o v a w)(g:R w w'):zbC R P ops o v a w' :=
 h.imp (fun⟨d,e⟩=>⟨d,fun b c=>e b (f.trans _ _ _ g c)⟩) id
def zbC.wpOp(c:Way R){i:Nat}{o:Oper}{v:Value}{a:Act}{w:World}(d:ops[i]?=some o)(f:zbC R P ops o v a w){K:Act->World->Prop}(h:K (a.put o.dst v) w):wpOp P ops Q i K a w:=by
 unfold Go.wpOp;simp only[d];rcases f with⟨b,e⟩|⟨b,rfl⟩
 .simp only[b,if_true,Oper.wp,e w (c.refl w),Oper.upon];exact .inl h
 simp only[b,Bool.false_eq_true,if_false];exact h
def zbC.of_same{o:Oper}{v:Value}{a b:Act}{w:World}(e:zbC R P ops o v a w)(c:execOp b.eval o=execOp a.eval o)(d:Region.wanted o (yielded ops b.tmps)=Region.wanted o (yielded ops a.tmps)):zbC R P ops o v b w:=by
 unfold zbC at *;rw[c,d];exact e
def zyX(O:Way R){j:Nat}{g k:Oper}{v:Value}(T:ops[j]?=some k)(I:g.apart ops k=true)(J:∀cs b,g.op≠.select cs b)(A:∀cs b,k.op≠.select cs b)(N:∀c a w,Q (.panic c) (a.put g.dst v) w->Q (.panic c) a w){K:Act->World->Prop}{a:Act}{w:World}(m:zbC R P ops g v a w)(h:wpOp P ops Q j (fun D w'=>R w w'/\K D w') (a.put g.dst v) w) :wpOp P ops Q j (fun D w'=>R w w'/\zbC R P ops g v D w'/\K (D.put g.dst v) w') a w:=by
 obtain⟨G,y,M⟩:=Oper.apart_spec I;have keep:∀(a:Act) w',R w w'->zbC R P ops g v a w->∀u,zbC R P ops g v (a.put k.dst u) w':=fun a w' S m u=>
  (zbC.later O m S).of_same (execOp_put g J a k.dst u M) (wanted_put g a k.dst u M)
 have t:∀d,zbC R P ops g v { a with defers:=d::a.defers} w:=fun d=>m.of_same rfl rfl;unfold wpOp at *;simp only[T]at *;rw[wanted_put k a g.dst v G]at h;split
 ·rename_i hw;simp only[hw,if_true]at h;rcases h with h|⟨i,p⟩
  case inr=>exact .inr ⟨by unfold Oper.asks at *;rw[execOp_put k A a g.dst v G]at i;exact i,p⟩
  refine .inl ?_;unfold Oper.wp at *;rw[execOp_put k A a g.dst v G]at h;generalize (execOp a.eval k).run P w=r at *;cases r with
  | ok n w'=>
   cases n<;>simp only[Oper.upon]at h ⊢
   case value u=>exact⟨h.1,keep a _ h.1 m u,by rw[<-Act.put_comm a v u y];exact h.2⟩
   case skip=>exact⟨h.1,keep a _ h.1 m _,by rw[<-Act.put_comm a v undef y];exact h.2⟩
   case defer d=>
    refine⟨h.1,keep _ _ h.1 (t d) _,?_⟩;rw[<-Act.put_comm _ v undef y,<-Act.put_defers];exact h.2
   case enter f args=>
    refine Calls.mono h fun e L l=>?_;cases e with
    | returned u=>exact⟨l.1,keep a _ l.1 m u,by rw[<-Act.put_comm a v u y];exact l.2⟩
    | panicked c=>exact N _ _ _ l
    | outgrown=>exact l
   case row row args=>exact Rows.mono h fun u L l=>⟨l.1,keep a _ l.1 m u,by rw[<-Act.put_comm a v u y];exact l.2⟩
  | halt x w'=>
   cases x<;>simp only[Oper.upon]at h ⊢
   case panic u=>exact N _ _ _ h
 rename_i hw;simp only[hw]at h;exact⟨h.1,keep a _ h.1 m _,by rw[<-Act.put_comm a v undef y];exact h.2⟩
def ziA(I:Way R)(hB:Last md ops z C){i:Nat}{y:Oper}{v:Value}(V:ops[i]?=some y)(ah:some i≠z)(r:∀(j:Nat)(o:Oper) cs b,ops[j]?=some o->o.op≠.select cs b)(hQ:∀c a w,Q (.panic c) (a.put y.dst v) w->Q (.panic c) a w) :∀(g:Nat)(d:Array Bool)(a:Act)(w:World),C d ->(∀j A,ops[j]?=some A->j≠i->d.getD j true=false->(∀e∈A.after,Region.binds md e=true->e.on≠i)->y.apart ops A=true) ->i∈Region.ready md ops d->zbC R P ops y v a w ->zpY R z P md ops Q g (d.setIfInBounds i true) (a.put y.dst v) w->zpY R z P md ops Q (g+1) d a w:=by
 intro g
 induction g with
 | zero=>
  intro d a w _ _ p S H;refine⟨fun h=>(by rw[h]at p;cases p),fun j G=>?_⟩;by_cases f:j=i
  .subst f;exact zbC.wpOp I V S ⟨fun _=>I.refl _,H⟩
  .have:=ready_mono G f
   rw[H.1]at this;cases this
 | succ g ih=>
  intro d a w L l p S H;refine⟨fun h=>(by rw[h]at p;cases p),fun j G=>?_⟩;by_cases f:j=i
  .subst f;exact zbC.wpOp I V S ⟨fun _=>I.refl _,H⟩
  .have X:some j≠z:=fun e=>f (hB.alone _ _ _ L p G e).symm
   have t:=H.2 j (ready_mono G f);obtain⟨n,A,u,J⟩:=mem_ready.1 G;have N:∀e∈A.after,Region.binds md e=true->e.on≠i:=fun e he hb U=>by
    have t:=J e he hb;have h0:=(mem_ready.1 p).1;rw[U]at t;rcases Nat.lt_or_ge i d.size with D|D
    .simp[D]at h0 t;rw[h0]at t;cases t
    .simp[Array.getElem?_eq_none D]at t
   have h2:=zyX I u (l j A u f n N) (fun cs b=>r i y cs b V) (fun cs b=>r j A cs b u) hQ S (wpOp_mono (fun a' w' D=>⟨D.1 X,D.2⟩) t);have m:∀k ok,ops[k]?=some ok->k≠i->(d.setIfInBounds j true).getD k true=false ->
     (∀e∈ok.after,Region.binds md e=true->e.on≠i)->y.apart ops ok=true:=fun k ok hk Y O Z=>by
    refine l k ok hk Y ?_ Z;by_cases M:j=k
    .subst M;exact n
    .rw[getD_set_ne true M]at O;exact O
   refine wpOp_mono (fun a' w' T=>⟨fun _=>T.1,ih (d.setIfInBounds j true) a' w' (hB.set _ _ L G) m (ready_mono p (Ne.symm f)) T.2.1 ?_⟩) h2;rw[Array.setIfInBounds_comm _ _ f];exact T.2.2
def zdI(R:World->World->Prop)(z:Option Nat)(P:Program)(ops:Array Oper)(Q:Exit->Act->World->Prop):List (Nat×Bool)->Act->World->Prop
 | [],a,w=>Q .normal a w
 | (i,loud)::rest,a,w=>
  match ops[i]? with
  | none=>False
  | some o=>
   if Region.wanted o (yielded ops a.tmps)then
    if loud then o.wp P a w (fun a' w'=>(some i≠z->R w w')/\zdI R z P ops Q rest a' w') Q
    else some i≠z/\∃v,(∀w',R w w'->(execOp a.eval o).run P w'=.ok (.value v) w')/\zdI R z P ops Q rest (a.put o.dst v) w
   else some i≠z/\zdI R z P ops Q rest (a.put o.dst undef) w
def ordB(md:Region.Mode)(ops:Array Oper):List (Nat×Bool)->Array Bool->Bool
 | [],listed=>(Region.ready md ops listed).isEmpty
 | (i,loud)::rest,listed=>
  (if loud then Region.ready md ops listed==[i]else(Region.ready md ops listed).contains i&&Region.free md ops listed i)&&ordB md ops rest (listed.setIfInBounds i true)
def zdM(k:Way R)(e:Last md ops z C)(p:Region.noSelect ops=true)(n:∀c a w d v,Q (.panic c) (Act.put a d v) w->Q (.panic c) a w):∀(l:List (Nat×Bool))(b:Array Bool)(a:Act)(w:World),C b ->ordB md ops l b=true->zdI R z P ops Q l a w->zpY R z P md ops Q l.length b a w
 | [],b,a,w,_,hB,h=>⟨by simpa[ordB]using hB,h⟩
 | (i,loud)::l,b,a,w,hC,hB,h=>by
  simp only[ordB,Bool.and_eq_true]at hB;obtain⟨f,r⟩:=hB;simp only[zdI]at h;cases ho:ops[i]? with
  | none=>simp only[ho]at h
  | some o=>
   simp only[ho]at h;cases loud with
   | true=>
    simp only[if_true,beq_iff_eq]at f;have m:i∈Region.ready md ops b:=by rw[f];exact List.mem_singleton.2 rfl
    refine⟨fun u=>(by rw[f]at u;cases u),fun j y=>?_⟩;rw[f]at y;obtain rfl:j=i:=by simpa using y
    unfold wpOp;simp only[ho];split
    ·rename_i g
     simp only[g,if_true]at h;exact .inl (Oper.wp_mono (fun A w' t=>⟨t.1,zdM k e p n l _ A w' (e.set _ _ hC m) r t.2⟩) h)
    .rename_i g
     simp only[g,Bool.false_eq_true,if_false]at h;exact⟨fun _=>k.refl _,zdM k e p n l _ _ w (e.set _ _ hC m) r h.2⟩
   | false=>
    simp only[Bool.false_eq_true,if_false,Bool.and_eq_true]at f h;have m:i∈Region.ready md ops b:=by simpa using f.1
    by_cases g:Region.wanted o (yielded ops a.tmps)=true
    .simp only[g,if_true]at h
     obtain⟨I,v,G,D⟩:=h;exact ziA k e ho I (Region.noSelect_spec p) (fun c a w=>n c a w o.dst v) l.length b a w hC (Region.free_spec ho f.2) m (.inl ⟨g,G⟩) (zdM k e p n l _ _ w (e.set _ _ hC m) r D)
    .simp only[g,Bool.false_eq_true,if_false]at h
     exact ziA k e ho h.1 (Region.noSelect_spec p) (fun c a w=>n c a w o.dst undef) l.length b a w hC (Region.free_spec ho f.2) m (.inr ⟨by simpa using g,rfl⟩) (zdM k e p n l _ _ w (e.set _ _ hC m) r h.2)
def zi9(k:Way R){id:Nat}{l:List Oper}{a:Act}{w:World}(b:List (Nat×Bool))(i:Last .any l.toArray z C)(g:C (Array.replicate l.toArray.size false))(hm:P.follows .mixedOrders=true)(e:b.length=l.length)(m:Region.noSelect l.toArray=true)(f:ordB .any l.toArray b (Array.replicate l.toArray.size false)=true)(j:∀c a w d v,Q (.panic c) (Act.put a d v) w->Q (.panic c) a w)(h:zdI R z P l.toArray Q b a w.drew):(Code.region id l.toArray true).wp P Q a w:=by
 refine wp_region_any hm (zmN (R:=R) (z:=z) _ _ _ _ ?_);have:=zdM (md:=.any) k i m j b _ a w.drew g f h;rw[e]at this;simpa using this
def wp_region_ord(i:Way R){id:Nat}{l:List Oper}{a:Act}{w:World}(b:List (Nat×Bool))(hm:P.follows .mixedOrders=true)(e:b.length=l.length)(j:Region.noSelect l.toArray=true)(f:ordB .any l.toArray b (Array.replicate l.toArray.size false)=true)(g:∀c a w d v,Q (.panic c) (Act.put a d v) w->Q (.panic c) a w)(h:zdI R none P l.toArray Q b a w.drew):(Code.region id l.toArray true).wp P Q a w :=
 zi9 (C:=fun _=>True) i b ⟨fun _ _ _ _=>trivial,fun _ _ _ _ _ _ h=>by cases h⟩ trivial hm e j f g h
def ord_still{i:Nat}{rest:List (Nat×Bool)}{a:Act}{w:World}{o:Oper}{l:List Oper}(g:l[i]?=some o)(hp:ztU o.op=true)(f:Region.wanted o (yielded l.toArray a.tmps)=true)(h:∀K:Act->Prop,(∀a,zdI R z P l.toArray Q rest a w->K a)->o.quiet P a (fun w'=>∃x:GW R w,w'=x.val) K)(k:some i≠z:=by decide):zdI R z P l.toArray Q ((i,false)::rest) a w:=by
 have j:l.toArray[i]?=some o:=by simpa using g
 simp only[zdI,j,f,if_true,Bool.false_eq_true,if_false];obtain⟨v,d,e⟩:=h _ (fun _ h=>h);refine⟨k,v,fun w' c=>?_,e⟩;have b:=d w' ⟨⟨w',c⟩,rfl⟩;unfold Oper.quietAt at b;cases hr:(execOp a.eval o).run P w' with
 | halt x w1=>rw[hr]at b;exact b.elim
 | ok r w1=>
  obtain⟨u,rfl⟩:=ztT hp hr;rw[hr]at b;obtain⟨rfl,rfl⟩:=b;rfl
def ord_loud{i:Nat}{rest:List (Nat×Bool)}{a:Act}{w:World}{o:Oper}{l:List Oper}(f:l[i]?=some o)(e:Region.wanted o (yielded l.toArray a.tmps)=true)(h:∀K:Act->World->Prop,(∀b w',R w w'->zdI R z P l.toArray Q rest b w'->K b w')->o.wp P a w K Q):zdI R z P l.toArray Q ((i,true)::rest) a w:=by
 have g:l.toArray[i]?=some o:=by simpa using f
 simp only[zdI,g,e,if_true];exact h _ (fun _ _ c d=>⟨fun _=>c,d⟩)
def ord_skip(j:Way R){i:Nat}{b:Bool}{rest:List (Nat×Bool)}{a:Act}{w:World}{dst:Option Tmp}{e:Op}{ty:TypeId}{pos:String}{aft:Array Edge}{c:Option (Nat×Bool)}{l:List Oper}(m:l[i]?=some ⟨dst,e,ty,pos,aft,c⟩)(k:Region.wanted ⟨dst,e,ty,pos,aft,c⟩ (yielded l.toArray a.tmps)=false)(h:∀K:Act->Prop,(∀a,zdI R z P l.toArray Q rest a w->K a)->Oper.quiet P ⟨dst,.move (.const undef),ty,pos,aft,none⟩ a (fun w'=>∃x:GW R w,w'=x.val) K)(p:some i≠z:=by decide):zdI R z P l.toArray Q ((i,b)::rest) a w:=by
 have n:l.toArray[i]?=some ⟨dst,e,ty,pos,aft,c⟩:=by simpa using m
 simp only[zdI,n,k,Bool.false_eq_true,if_false];obtain⟨v,f,g⟩:=h _ (fun _ h=>h);have d:=f w ⟨⟨w,j.refl w⟩,rfl⟩;unfold Oper.quietAt at d;rw[BigFrame.run_move (.const undef) rfl]at d;obtain⟨_,rfl⟩:=d;exact⟨p,g⟩
def ord_nil{a:Act}{w:World}(h:Q .normal a w):zdI R z P ops Q [] a w:=h
def ord_last{i:Nat}{a:Act}{w:World}{o:Oper}{l:List Oper}(e:l[i]?=some o)(d:Region.wanted o (yielded l.toArray a.tmps)=true)(h:∀K:Act->World->Prop,(∀b w',Q .normal b w'->K b w')->o.wp P a w K Q):zdI R (some i) P l.toArray Q [(i,true)] a w:=by
 have f:l.toArray[i]?=some o:=by simpa using e
 simp only[zdI,f,d,if_true];exact h _ (fun _ _ c=>⟨fun h=>absurd rfl h,c⟩)
attribute [irreducible] zdI
end
end Go.Proofs.YtgboedffaangeaaGreatDoor.OrdR
/- -/
namespace Go.Proofs.YtgboedffaangeaaGreatDoor.Ord
open _root_.Go.Proofs.Tryz
open Go.RowKit
def Grew(w w':World):Prop:=Below w.heap.size w w'
def Grew.refl(w:World):Grew w w:=Below.refl _ _
def Grew.trans{a b c:World}(h:Grew a b)(k:Grew b c):Grew a c:=Below.trans h (Below.mono k h.size)
def way:OrdR.Way Grew:=⟨Grew.refl,fun _ _ _ h k=>h.trans k⟩
abbrev GW(w:World):=OrdR.GW Grew w
instance(w:World):Nonempty (GW w):=⟨⟨w,Grew.refl w⟩⟩
end Go.Proofs.YtgboedffaangeaaGreatDoor.Ord
/- -/
namespace Go.Proofs.YtgboedffaangeaaGreatDoor
open _root_.Go.Proofs.Tryz
open Go.RowKit
def Rd.grew{w w':World}{v:Value}{l:Bs}(h:Rd w v l)(b:Ord.Grew w w'):Rd w' v l:=h.later b l_
def Rd.str_later{w:World}{v:Value}{l:Bs}(h:Rd w v l):∀x:Ord.GW w,(convert 34 9 v).run prog x.val=.ok (.string ⟨l.toArray⟩) x.val:=fun x=>(h.grew x.grew).str
def str_later{w:World}{base:Nat}{v:Value}{l:Bs}(h:Own w base v l)(b:l.length<=140737488351232):∀x:Ord.GW w,(convert 34 9 v).run prog x.val=.ok (.string ⟨l.toArray⟩) x.val:=(h.rd b).str_later
/- -/
open Go.ChangeShapes Go.WideShapes Go.ChangeAt
def own:ownKnob prog.godebug=none:=by kernel_rfl
def laidOut:laidOutB prog=true:=by kernel_rfl
def zCZ{x:Int}(h:(Lit.int .i64 x).wf=true):-9223372036854775808<=x/\x<=9223372036854775807:=by
 simpa[Lit.wf,IntKind.min,IntKind.max,IntKind.signed,IntKind.bits]using h
def zJ2{x:Int}(h:(Lit.int .u64 x).wf=true):0<=x/\x<=18446744073709551615:=by
 simpa[Lit.wf,IntKind.min,IntKind.max,IntKind.signed,IntKind.bits]using h
def zJ1{x:Int}(h:(Lit.int .u8 x).wf=true):0<=x/\x<=255:=by
 simpa[Lit.wf,IntKind.min,IntKind.max,IntKind.signed,IntKind.bits]using h
def cells_u8:prog.cellsOf 5=1:=by kernel_rfl
def zFA:prog.bytesOf 5=1:=by kernel_rfl
section
variable{H:Type}{enc:TypeId×Value->H}{W:World}
end
/- -/
section
variable{H:Type}{enc:TypeId×Value->H}{W:World}
end
/- -/
def zc1:Nat->Nat->Bs->Option Nat
 | 0,c,_=>some c
 | _+1,_,[]=>none
 | n+1,c,b::r=>if b.toNat/64=2 then zc1 n (64*c+b.toNat%64) r else none
def runeOK(least v:Nat):Bool:=!(decide (v<least)||decide (1114111<v)||(decide (55296<=v)&&decide (v<57344)))
def zc3(c:Nat):Option (Nat×Nat×Nat) :=
 if 194<=c/\c<224 then some (1,c%32,128)
 else if 224<=c/\c<240 then some (2,c%16,2048)
 else if 240<=c/\c<245 then some (3,c%8,65536)
 else none
def utf8:Bs->Bool
 | []=>true
 | c::r=>
  if c.toNat<128 then utf8 r
  else match zc3 c.toNat with
   | none=>false
   | some (n,m,least)=>match zc1 n m r with
    | none=>false
    | some v=>runeOK least v&&utf8 (r.drop n)
 termination_by l=>l.length
 decreasing_by all_goals(simp;try omega)
def zjA:utf8 []=true:=by rw[utf8]
def zv6{c:UInt8}{r:Bs}(h:c.toNat<128):utf8 (c::r)=utf8 r:=by rw[utf8,if_pos h]
def zjW{c:UInt8}{r:Bs}(h:¬c.toNat<128)(b:zc3 c.toNat=none):utf8 (c::r)=false:=by rw[utf8,if_neg h,b]
def zdN{c:UInt8}{r:Bs}{n m b:Nat}(h:¬c.toNat<128)(d:zc3 c.toNat=some (n,m,b)):utf8 (c::r)=(match zc1 n m r with
        | none=>false
        | some v=>runeOK b v&&utf8 (r.drop n)):=by rw[utf8,if_neg h,d]
def zcT{l:Bs}{i:Nat}(h:i<l.length):l.drop i=l.getD i 0::l.drop (i+1):=by
 rw[List.drop_eq_getElem_cons h];simp[List.getD,h]
def zhH{n c i:Nat}{l:Bs}(h:i<l.length):zc1 (n+1) c (l.drop i)=if(l.getD i 0).toNat/64=2 then zc1 n (64*c+(l.getD i 0).toNat%64) (l.drop (i+1))else none:=by
 rw[zcT h,zc1]
def zjX{n c i:Nat}{l:Bs}(h:l.length<=i):zc1 (n+1) c (l.drop i)=none:=by
 rw[List.drop_eq_nil_of_le h,zc1]
structure RdS(s:ByteArray)(l:Bs):Prop where
 eq:s=⟨l.toArray⟩
 small:l.length<=140737488351232
def RdS.len{s:ByteArray}{l:Bs}(h:RdS s l):∀u,(Builtin.len_ #[9] 3 #[.string s]).run prog u=.ok (.int .i64 (l.length:Int)) u:=by
 intro u;have e:=run_len_string (P:=prog) (w:=u) 9 3 (⟨l.toArray⟩:ByteArray) underlying9;have b:(⟨l.toArray⟩:ByteArray).size=l.length:=by simp[ByteArray.size]
 rw[b]at e;rw[h.eq];exact e
def RdS.idx{s:ByteArray}{l:Bs}(h:RdS s l)(i:Nat)(b:i<l.length):∀u,(Instr.index 9 (.string s) (.int .i64 (i:Int))).run prog u=.ok (.int .u8 (at8 l i)) u:=by
 intro u;rw[h.eq];have c:(⟨l.toArray⟩:ByteArray).size=l.length:=by simp[ByteArray.size]
 rw[run_index_string (P:=prog) u 9 ⟨l.toArray⟩ .i64 i underlying9,dif_pos ⟨by omega,by rw[c];omega⟩,ziY b];rfl
def zjD(s:ByteArray)(l:Bs)(w:World)(h:RdS s l) :Calls prog 165 #[.string s] w fun e w'=>e=.returned (.bool (utf8 l))/\w=w':=by
 have aN:=h.len;have N:=h.idx;have aV:=h.small;go_enter func165,ntmps165;go_wp2;go_loop [3] (fun i=>∃k:Nat,k<=l.length/\i=.int .i64 k/\Hid (utf8 l=utf8 (l.drop k))) (fun i=>l.length-(intOf i).toNat)
 case atStart=>exact⟨0,by omega,rfl,Lib.hid (by rw[List.drop_zero])⟩
 obtain⟨k,hk,rfl,HK⟩:=hrel;by_cases O:k<l.length
 .obtain⟨c,hc⟩:∃c:Nat,at8 l k=(c:Int):=⟨(l.getD k 0).toNat,rfl⟩;have aH:=zdG l k;have ar:(l.getD k 0).toNat=c:=by unfold at8 at hc;omega
  have HC:=Lib.hid ar;have hx:=N k O;rw[hc]at aH;clear ar;by_cases h1:c<128
  .go_wp2;go_round
   case rel=>exact⟨k+1,by omega,by go_num,Lib.hid (by rw[HK.o,zcT O,zv6 (by rw[HC.o];exact h1)])⟩
   simp[intOf];omega
  by_cases U:194<=c/\c<224
  .obtain⟨aP,aQ⟩:=U;have aI:decide ((c:Int)≥194)=true:=decide_eq_true (by omega);have t:decide ((c:Int)<224)=true:=decide_eq_true (by omega);have Z:zc3 c=some (1,c%32,128):=by unfold zc3;rw[if_pos (by omega)]
   have f:=Lib.hid (show utf8 l=(match zc1 1 (c%32) (l.drop (k+1))with
           | none=>false
           | some v=>runeOK 128 v&&utf8 ((l.drop (k+1)).drop 1)) by rw[HK.o,zcT O];exact zdN (by rw[HC.o];omega) (by rw[HC.o];exact Z))
   have hm:(c:Int)%32=((c%32:Nat):Int):=(by omega);have D:c%32<32:=(by omega);obtain⟨m,G⟩:=nm_ (c%32);rw[<-G]at hm D f;clear Z G HK;go_wp2;go_loop [4,7] (fun cc qq=>∃q b:Nat,1<=q/\q<=2/\k+q<=l.length/\qq=.int .i64 q/\cc=.int .i64 b/\Hid ((q=1/\b<=31)\/(q=2/\b<=2047)\/(q=3/\b<=131071)\/(q=4/\b<=8388607))/\Hid (zc1 1 m (l.drop (k+1))=zc1 (2-q) b (l.drop (k+q)))) (fun _ qq=>2-(intOf qq).toNat)
   case atStart=>exact⟨1,m,by omega,by omega,by omega,rfl,rfl,Lib.hid (.inl ⟨rfl,by omega⟩),Lib.hid rfl⟩
   obtain⟨q,b,az,aA,aB,rfl,rfl,y,M⟩:=hrel;have au:b<=8388607:=(by have:=y.o;omega);by_cases aC:q<=1
   .by_cases A:k+q<l.length
    .have L:=N (k+q) A;rw[show((k+q:Nat):Int)=(k:Int)+(q:Int)from by omega]at L;obtain⟨d,X⟩:∃d:Nat,at8 l (k+q)=(d:Int):=⟨(l.getD (k+q) 0).toNat,rfl⟩;have t:(l.getD (k+q) 0).toNat=d:=(by unfold at8 at X;omega);have u:=zdG l (k+q);rw[X]at L u;have p:=zhH (n:=1-q) (c:=b) A;rw[t]at p;have HN:=Lib.hid p;clear X t p;have Y:¬(k:Int)+(q:Int)≥(l.length:Int):=(by omega);by_cases U:d/64=2
     .have V:(((d:Int)/64)!=2)=false:=(by simp;omega);have aj:((d:Int)/64)=2:=(by omega);obtain⟨r,hr⟩:=nm_ (d%64);have ay:(d:Int)%64=(r:Int):=(by omega);have al:r<64:=(by omega);have S:=Lib.hid hr;clear hr;go_wp2;go_round
      case rel=>exact⟨q+1,64*b+r,by omega,by omega,by omega,by go_num,by go_num,Lib.hid (by have:=y.o;omega),Lib.hid (by rw[M.o,show 2-q=(1-q)+1 from by omega,HN.o,if_pos U,<-S.o,show 2-(q+1)=1-q from by omega,Nat.add_assoc])⟩
      simp[intOf];omega
     have V:(((d:Int)/64)!=2)=true:=(by simp;omega);have j:utf8 l=false:=(by rw[f.o,M.o,show 2-q=(1-q)+1 from by omega,HN.o,if_neg U]);have g:=Lib.hid j;clear j;go_wp2;go_ret;refine⟨?_,rfl⟩;rw[g.o];rfl
    have Y:(k:Int)+(q:Int)≥(l.length:Int):=(by omega);have j:utf8 l=false:=(by rw[f.o,M.o,show 2-q=(1-q)+1 from by omega,zjX (by omega)]);have g:=Lib.hid j;clear j;go_wp2;go_ret;refine⟨?_,rfl⟩;rw[g.o];rfl
   obtain rfl:q=2:=(by omega);have hv:zc1 1 m (l.drop (k+1))=some b:=(by rw[M.o];rfl);have hu:utf8 l=(runeOK 128 b&&utf8 (l.drop (k+2))):=(by rw[f.o,hv,List.drop_drop]);have T:=Lib.hid hu;clear hv hu;by_cases I:runeOK 128 b=true
   .have HO:=Lib.hid I;have J:=I;simp only[runeOK,Bool.not_eq_true',Bool.or_eq_false_iff,Bool.and_eq_false_iff,decide_eq_false_iff_not]at J;obtain⟨⟨o1,o2⟩,o3⟩:=J;clear I;have e1:decide ((b:Int)<128)=false:=decide_eq_false (by omega);have e2:decide ((b:Int)>1114111)=false:=decide_eq_false (by omega);by_cases o4:55296<=b
    .have o5:¬b<57344:=(by omega);have e3:decide ((b:Int)≥55296)=true:=decide_eq_true (by omega);have e4:decide ((b:Int)<57344)=false:=decide_eq_false (by omega);go_wp2;go_round
     case rel=>exact⟨k+2,by omega,by go_num,Lib.hid (by rw[T.o,HO.o];rfl)⟩
     simp[intOf];omega
    have e3:decide ((b:Int)≥55296)=false:=decide_eq_false (by omega);go_wp2;go_round
    case rel=>exact⟨k+2,by omega,by go_num,Lib.hid (by rw[T.o,HO.o];rfl)⟩
    simp[intOf];omega
   have j:utf8 l=false:=(by rw[T.o,Bool.eq_false_iff.2 I];rfl);have g:=Lib.hid j;clear j;by_cases o1:b<128
   .have e1:decide ((b:Int)<128)=true:=decide_eq_true (by omega);go_wp2;go_ret;refine⟨?_,rfl⟩;rw[g.o];rfl
   have e1:decide ((b:Int)<128)=false:=decide_eq_false (by omega);by_cases o2:1114111<b
   .have e2:decide ((b:Int)>1114111)=true:=decide_eq_true (by omega);go_wp2;go_ret;refine⟨?_,rfl⟩;rw[g.o];rfl
   have o3:55296<=b/\b<57344:=by
    refine Decidable.of_not_not fun o3=>I ?_;simp only[runeOK,Bool.not_eq_true',Bool.or_eq_false_iff,Bool.and_eq_false_iff,decide_eq_false_iff_not];omega
   obtain⟨o4,o5⟩:=o3;have e2:decide ((b:Int)>1114111)=false:=decide_eq_false (by omega);have e3:decide ((b:Int)≥55296)=true:=decide_eq_true (by omega);have e4:decide ((b:Int)<57344)=true:=decide_eq_true (by omega);go_wp2;go_ret;refine⟨?_,rfl⟩;rw[g.o];rfl
  have aI:(decide ((c:Int)≥194)&&decide ((c:Int)<224))=false:=by simp;omega
  by_cases h3:224<=c/\c<240
  .obtain⟨aR,aS⟩:=h3;have u:decide ((c:Int)≥194)=true:=decide_eq_true (by omega);have av:decide ((c:Int)<224)=false:=decide_eq_false (by omega);have ao:decide ((c:Int)≥224)=true:=decide_eq_true (by omega);have aw:decide ((c:Int)<240)=true:=decide_eq_true (by omega);have Z:zc3 c=some (2,c%16,2048):=by unfold zc3;rw[if_neg (by omega),if_pos (by omega)]
   have f:=Lib.hid (show utf8 l=(match zc1 2 (c%16) (l.drop (k+1))with
           | none=>false
           | some v=>runeOK 2048 v&&utf8 ((l.drop (k+1)).drop 2)) by rw[HK.o,zcT O];exact zdN (by rw[HC.o];omega) (by rw[HC.o];exact Z))
   have hm:(c:Int)%16=((c%16:Nat):Int):=(by omega);have D:c%16<32:=(by omega);obtain⟨m,G⟩:=nm_ (c%16);rw[<-G]at hm D f;clear Z G HK;go_wp2;go_loop [4,7] (fun cc qq=>∃q b:Nat,1<=q/\q<=3/\k+q<=l.length/\qq=.int .i64 q/\cc=.int .i64 b/\Hid ((q=1/\b<=31)\/(q=2/\b<=2047)\/(q=3/\b<=131071)\/(q=4/\b<=8388607))/\Hid (zc1 2 m (l.drop (k+1))=zc1 (3-q) b (l.drop (k+q)))) (fun _ qq=>3-(intOf qq).toNat)
   case atStart=>exact⟨1,m,by omega,by omega,by omega,rfl,rfl,Lib.hid (.inl ⟨rfl,by omega⟩),Lib.hid rfl⟩
   obtain⟨q,b,az,aA,aB,rfl,rfl,y,M⟩:=hrel;have au:b<=8388607:=(by have:=y.o;omega);by_cases aC:q<=2
   .by_cases A:k+q<l.length
    .have L:=N (k+q) A;rw[show((k+q:Nat):Int)=(k:Int)+(q:Int)from by omega]at L;obtain⟨d,X⟩:∃d:Nat,at8 l (k+q)=(d:Int):=⟨(l.getD (k+q) 0).toNat,rfl⟩;have t:(l.getD (k+q) 0).toNat=d:=(by unfold at8 at X;omega);have u:=zdG l (k+q);rw[X]at L u;have p:=zhH (n:=2-q) (c:=b) A;rw[t]at p;have HN:=Lib.hid p;clear X t p;have Y:¬(k:Int)+(q:Int)≥(l.length:Int):=(by omega);by_cases U:d/64=2
     .have V:(((d:Int)/64)!=2)=false:=(by simp;omega);have aj:((d:Int)/64)=2:=(by omega);obtain⟨r,hr⟩:=nm_ (d%64);have ay:(d:Int)%64=(r:Int):=(by omega);have al:r<64:=(by omega);have S:=Lib.hid hr;clear hr;go_wp2;go_round
      case rel=>exact⟨q+1,64*b+r,by omega,by omega,by omega,by go_num,by go_num,Lib.hid (by have:=y.o;omega),Lib.hid (by rw[M.o,show 3-q=(2-q)+1 from by omega,HN.o,if_pos U,<-S.o,show 3-(q+1)=2-q from by omega,Nat.add_assoc])⟩
      simp[intOf];omega
     have V:(((d:Int)/64)!=2)=true:=(by simp;omega);have j:utf8 l=false:=(by rw[f.o,M.o,show 3-q=(2-q)+1 from by omega,HN.o,if_neg U]);have g:=Lib.hid j;clear j;go_wp2;go_ret;refine⟨?_,rfl⟩;rw[g.o];rfl
    have Y:(k:Int)+(q:Int)≥(l.length:Int):=(by omega);have j:utf8 l=false:=(by rw[f.o,M.o,show 3-q=(2-q)+1 from by omega,zjX (by omega)]);have g:=Lib.hid j;clear j;go_wp2;go_ret;refine⟨?_,rfl⟩;rw[g.o];rfl
   obtain rfl:q=3:=(by omega);have hv:zc1 2 m (l.drop (k+1))=some b:=(by rw[M.o];rfl);have hu:utf8 l=(runeOK 2048 b&&utf8 (l.drop (k+3))):=(by rw[f.o,hv,List.drop_drop]);have T:=Lib.hid hu;clear hv hu;by_cases I:runeOK 2048 b=true
   .have HO:=Lib.hid I;have J:=I;simp only[runeOK,Bool.not_eq_true',Bool.or_eq_false_iff,Bool.and_eq_false_iff,decide_eq_false_iff_not]at J;obtain⟨⟨o1,o2⟩,o3⟩:=J;clear I;have e1:decide ((b:Int)<2048)=false:=decide_eq_false (by omega);have e2:decide ((b:Int)>1114111)=false:=decide_eq_false (by omega);by_cases o4:55296<=b
    .have o5:¬b<57344:=(by omega);have e3:decide ((b:Int)≥55296)=true:=decide_eq_true (by omega);have e4:decide ((b:Int)<57344)=false:=decide_eq_false (by omega);go_wp2;go_round
     case rel=>exact⟨k+3,by omega,by go_num,Lib.hid (by rw[T.o,HO.o];rfl)⟩
     simp[intOf];omega
    have e3:decide ((b:Int)≥55296)=false:=decide_eq_false (by omega);go_wp2;go_round
    case rel=>exact⟨k+3,by omega,by go_num,Lib.hid (by rw[T.o,HO.o];rfl)⟩
    simp[intOf];omega
   have j:utf8 l=false:=(by rw[T.o,Bool.eq_false_iff.2 I];rfl);have g:=Lib.hid j;clear j;by_cases o1:b<2048
   .have e1:decide ((b:Int)<2048)=true:=decide_eq_true (by omega);go_wp2;go_ret;refine⟨?_,rfl⟩;rw[g.o];rfl
   have e1:decide ((b:Int)<2048)=false:=decide_eq_false (by omega);by_cases o2:1114111<b
   .have e2:decide ((b:Int)>1114111)=true:=decide_eq_true (by omega);go_wp2;go_ret;refine⟨?_,rfl⟩;rw[g.o];rfl
   have o3:55296<=b/\b<57344:=by
    refine Decidable.of_not_not fun o3=>I ?_;simp only[runeOK,Bool.not_eq_true',Bool.or_eq_false_iff,Bool.and_eq_false_iff,decide_eq_false_iff_not];omega
   obtain⟨o4,o5⟩:=o3;have e2:decide ((b:Int)>1114111)=false:=decide_eq_false (by omega);have e3:decide ((b:Int)≥55296)=true:=decide_eq_true (by omega);have e4:decide ((b:Int)<57344)=true:=decide_eq_true (by omega);go_wp2;go_ret;refine⟨?_,rfl⟩;rw[g.o];rfl
  by_cases h4:240<=c/\c<245
  .obtain⟨aT,aU⟩:=h4;have u:decide ((c:Int)≥194)=true:=decide_eq_true (by omega);have av:decide ((c:Int)<224)=false:=decide_eq_false (by omega);have ao:decide ((c:Int)≥224)=true:=decide_eq_true (by omega);have aw:decide ((c:Int)<240)=false:=decide_eq_false (by omega);have ax:decide ((c:Int)≥240)=true:=decide_eq_true (by omega);have aJ:decide ((c:Int)<245)=true:=decide_eq_true (by omega);have Z:zc3 c=some (3,c%8,65536):=by unfold zc3;rw[if_neg (by omega),if_neg (by omega),if_pos (by omega)]
   have f:=Lib.hid (show utf8 l=(match zc1 3 (c%8) (l.drop (k+1))with
           | none=>false
           | some v=>runeOK 65536 v&&utf8 ((l.drop (k+1)).drop 3)) by rw[HK.o,zcT O];exact zdN (by rw[HC.o];omega) (by rw[HC.o];exact Z))
   have hm:(c:Int)%8=((c%8:Nat):Int):=(by omega);have D:c%8<32:=(by omega);obtain⟨m,G⟩:=nm_ (c%8);rw[<-G]at hm D f;clear Z G HK;go_wp2;go_loop [4,7] (fun cc qq=>∃q b:Nat,1<=q/\q<=4/\k+q<=l.length/\qq=.int .i64 q/\cc=.int .i64 b/\Hid ((q=1/\b<=31)\/(q=2/\b<=2047)\/(q=3/\b<=131071)\/(q=4/\b<=8388607))/\Hid (zc1 3 m (l.drop (k+1))=zc1 (4-q) b (l.drop (k+q)))) (fun _ qq=>4-(intOf qq).toNat)
   case atStart=>exact⟨1,m,by omega,by omega,by omega,rfl,rfl,Lib.hid (.inl ⟨rfl,by omega⟩),Lib.hid rfl⟩
   obtain⟨q,b,az,aA,aB,rfl,rfl,y,M⟩:=hrel;have au:b<=8388607:=(by have:=y.o;omega);by_cases aC:q<=3
   .by_cases A:k+q<l.length
    .have L:=N (k+q) A;rw[show((k+q:Nat):Int)=(k:Int)+(q:Int)from by omega]at L;obtain⟨d,X⟩:∃d:Nat,at8 l (k+q)=(d:Int):=⟨(l.getD (k+q) 0).toNat,rfl⟩;have t:(l.getD (k+q) 0).toNat=d:=(by unfold at8 at X;omega);have u:=zdG l (k+q);rw[X]at L u;have p:=zhH (n:=3-q) (c:=b) A;rw[t]at p;have HN:=Lib.hid p;clear X t p;have Y:¬(k:Int)+(q:Int)≥(l.length:Int):=(by omega);by_cases U:d/64=2
     .have V:(((d:Int)/64)!=2)=false:=(by simp;omega);have aj:((d:Int)/64)=2:=(by omega);obtain⟨r,hr⟩:=nm_ (d%64);have ay:(d:Int)%64=(r:Int):=(by omega);have al:r<64:=(by omega);have S:=Lib.hid hr;clear hr;go_wp2;go_round
      case rel=>exact⟨q+1,64*b+r,by omega,by omega,by omega,by go_num,by go_num,Lib.hid (by have:=y.o;omega),Lib.hid (by rw[M.o,show 4-q=(3-q)+1 from by omega,HN.o,if_pos U,<-S.o,show 4-(q+1)=3-q from by omega,Nat.add_assoc])⟩
      simp[intOf];omega
     have V:(((d:Int)/64)!=2)=true:=(by simp;omega);have j:utf8 l=false:=(by rw[f.o,M.o,show 4-q=(3-q)+1 from by omega,HN.o,if_neg U]);have g:=Lib.hid j;clear j;go_wp2;go_ret;refine⟨?_,rfl⟩;rw[g.o];rfl
    have Y:(k:Int)+(q:Int)≥(l.length:Int):=(by omega);have j:utf8 l=false:=(by rw[f.o,M.o,show 4-q=(3-q)+1 from by omega,zjX (by omega)]);have g:=Lib.hid j;clear j;go_wp2;go_ret;refine⟨?_,rfl⟩;rw[g.o];rfl
   obtain rfl:q=4:=(by omega);have hv:zc1 3 m (l.drop (k+1))=some b:=(by rw[M.o];rfl);have hu:utf8 l=(runeOK 65536 b&&utf8 (l.drop (k+4))):=(by rw[f.o,hv,List.drop_drop]);have T:=Lib.hid hu;clear hv hu;by_cases I:runeOK 65536 b=true
   .have HO:=Lib.hid I;have J:=I;simp only[runeOK,Bool.not_eq_true',Bool.or_eq_false_iff,Bool.and_eq_false_iff,decide_eq_false_iff_not]at J;obtain⟨⟨o1,o2⟩,o3⟩:=J;clear I;have e1:decide ((b:Int)<65536)=false:=decide_eq_false (by omega);have e2:decide ((b:Int)>1114111)=false:=decide_eq_false (by omega);by_cases o4:55296<=b
    .have o5:¬b<57344:=(by omega);have e3:decide ((b:Int)≥55296)=true:=decide_eq_true (by omega);have e4:decide ((b:Int)<57344)=false:=decide_eq_false (by omega);go_wp2;go_round
     case rel=>exact⟨k+4,by omega,by go_num,Lib.hid (by rw[T.o,HO.o];rfl)⟩
     simp[intOf];omega
    have e3:decide ((b:Int)≥55296)=false:=decide_eq_false (by omega);go_wp2;go_round
    case rel=>exact⟨k+4,by omega,by go_num,Lib.hid (by rw[T.o,HO.o];rfl)⟩
    simp[intOf];omega
   have j:utf8 l=false:=(by rw[T.o,Bool.eq_false_iff.2 I];rfl);have g:=Lib.hid j;clear j;by_cases o1:b<65536
   .have e1:decide ((b:Int)<65536)=true:=decide_eq_true (by omega);go_wp2;go_ret;refine⟨?_,rfl⟩;rw[g.o];rfl
   have e1:decide ((b:Int)<65536)=false:=decide_eq_false (by omega);by_cases o2:1114111<b
   .have e2:decide ((b:Int)>1114111)=true:=decide_eq_true (by omega);go_wp2;go_ret;refine⟨?_,rfl⟩;rw[g.o];rfl
   have o3:55296<=b/\b<57344:=by
    refine Decidable.of_not_not fun o3=>I ?_;simp only[runeOK,Bool.not_eq_true',Bool.or_eq_false_iff,Bool.and_eq_false_iff,decide_eq_false_iff_not];omega
   obtain⟨o4,o5⟩:=o3;have e2:decide ((b:Int)>1114111)=false:=decide_eq_false (by omega);have e3:decide ((b:Int)≥55296)=true:=decide_eq_true (by omega);have e4:decide ((b:Int)<57344)=true:=decide_eq_true (by omega);go_wp2;go_ret;refine⟨?_,rfl⟩;rw[g.o];rfl
  have Z:zc3 c=none:=by unfold zc3;rw[if_neg U,if_neg h3,if_neg h4]
  have g:=Lib.hid (show utf8 l=false by rw[HK.o,zcT O];exact zjW (by rw[HC.o];omega) (by rw[HC.o];exact Z));clear Z;by_cases h5:c<194
  .have u:decide ((c:Int)≥194)=false:=decide_eq_false (by omega);have ao:decide ((c:Int)≥224)=false:=decide_eq_false (by omega);have ax:decide ((c:Int)≥240)=false:=decide_eq_false (by omega);go_wp2;go_ret;refine⟨?_,rfl⟩;rw[g.o];rfl
  have u:decide ((c:Int)≥194)=true:=decide_eq_true (by omega);have av:decide ((c:Int)<224)=false:=decide_eq_false (by omega);have ao:decide ((c:Int)≥224)=true:=decide_eq_true (by omega);have aw:decide ((c:Int)<240)=false:=decide_eq_false (by omega);have ax:decide ((c:Int)≥240)=true:=decide_eq_true (by omega);have aJ:decide ((c:Int)<245)=false:=decide_eq_false (by omega);go_wp2;go_ret;refine⟨?_,rfl⟩;rw[g.o];rfl
 obtain rfl:k=l.length:=by omega
 have g:=Lib.hid (show utf8 l=true by rw[HK.o,List.drop_length,zjA]);go_wp2;go_ret;refine⟨?_,rfl⟩;rw[g.o];rfl
/- -/
def cellV(num:Nat)(s:ByteArray):Value:=.agg #[.int .u64 (num:Int),.string s]
def RdS.toList{s:ByteArray}{l:Bs}(h:RdS s l):s.toList=l:=by
 rw[h.eq,Lib.toList_data]
def checkC(kind:Int)(num:Nat)(l:Bs):Nat :=
 if kind<0\/5<kind then 10
 else if((kind=3\/kind=4)/\num≠0)\/(¬(kind=3\/kind=4)/\l≠[])\/(kind=2/\1<num)\/(kind=4/\utf8 l=false)then 11
 else if 256<l.length then 7 else 0
def zdP(kind:Int)(num:Nat)(s:ByteArray)(l:Bs)(w:World)(h:RdS s l)(D:-9223372036854775808<=kind/\kind<=9223372036854775807)(G:num<18446744073709551616) :Calls prog 115 #[.int .i64 kind,cellV num s] w fun e w'=>e=.returned (.int .i64 (checkC kind num l:Nat))/\Below w.heap.size w w':=by
 have t:=h.len;have c:=h_ h.toList;unfold cellV;by_cases n:kind<0
 .have k:decide (kind<0)=true:=decide_eq_true n;rw[show checkC _ num l=10 from by unfold checkC;rw[if_pos (.inl n)]];go_enter func115,ntmps115;go_wp2;go_ret;exact⟨rfl,(Below.refl _ _).alloc l_ _⟩
 have k:decide (kind<0)=false:=decide_eq_false n;by_cases r:5<kind
 .have A:decide (kind>5)=true:=decide_eq_true r;rw[show checkC _ num l=10 from by unfold checkC;rw[if_pos (.inr r)]];go_enter func115,ntmps115;go_wp2;go_ret;exact⟨rfl,(Below.refl _ _).alloc l_ _⟩
 clear k;obtain rfl|rfl|rfl|rfl|rfl|rfl:kind=0\/kind=1\/kind=2\/kind=3\/kind=4\/kind=5:=by omega
 .by_cases b:l=[]
  .have d:s.toList.isEmpty=true:=(by rw[c.o,b];rfl);have g:¬(l.length:Int)>256:=(by rw[b];decide);rw[show checkC _ num l=0 from by unfold checkC;rw[if_neg (by omega),if_neg (by simp[b]),if_neg (by simp[b])]];go_enter func115,ntmps115;go_wp2;go_ret;exact⟨rfl,(Below.refl _ _).alloc l_ _⟩
  have d:s.toList.isEmpty=false:=by rw[c.o];cases l<;>simp_all
  rw[show checkC _ num l=11 from by unfold checkC;rw[if_neg (by omega),if_pos (.inr (.inl ⟨by omega,b⟩))]];go_enter func115,ntmps115;go_wp2;go_ret;exact⟨rfl,(Below.refl _ _).alloc l_ _⟩
 .by_cases b:l=[]
  .have d:s.toList.isEmpty=true:=(by rw[c.o,b];rfl);have g:¬(l.length:Int)>256:=(by rw[b];decide);rw[show checkC _ num l=0 from by unfold checkC;rw[if_neg (by omega),if_neg (by simp[b]),if_neg (by simp[b])]];go_enter func115,ntmps115;go_wp2;go_ret;exact⟨rfl,(Below.refl _ _).alloc l_ _⟩
  have d:s.toList.isEmpty=false:=by rw[c.o];cases l<;>simp_all
  rw[show checkC _ num l=11 from by unfold checkC;rw[if_neg (by omega),if_pos (.inr (.inl ⟨by omega,b⟩))]];go_enter func115,ntmps115;go_wp2;go_ret;exact⟨rfl,(Below.refl _ _).alloc l_ _⟩
 .by_cases b:l=[]
  .by_cases y:1<num
   .have d:s.toList.isEmpty=true:=(by rw[c.o,b];rfl);have g:¬(l.length:Int)>256:=(by rw[b];decide);have p:decide ((num:Int)>1)=true:=decide_eq_true (by omega);rw[show checkC _ num l=11 from by unfold checkC;rw[if_neg (by omega),if_pos (.inr (.inr (.inl ⟨rfl,y⟩)))]];go_enter func115,ntmps115;go_wp2;go_ret;exact⟨rfl,(Below.refl _ _).alloc l_ _⟩
   have d:s.toList.isEmpty=true:=(by rw[c.o,b];rfl);have g:¬(l.length:Int)>256:=(by rw[b];decide);have p:decide ((num:Int)>1)=false:=decide_eq_false (by omega);rw[show checkC _ num l=0 from by unfold checkC;rw[if_neg (by omega),if_neg (by simp[b];omega),if_neg (by simp[b])]];go_enter func115,ntmps115;go_wp2;go_ret;exact⟨rfl,(Below.refl _ _).alloc l_ _⟩
  have d:s.toList.isEmpty=false:=by rw[c.o];cases l<;>simp_all
  rw[show checkC _ num l=11 from by unfold checkC;rw[if_neg (by omega),if_pos (.inr (.inl ⟨by omega,b⟩))]];go_enter func115,ntmps115;go_wp2;go_ret;exact⟨rfl,(Below.refl _ _).alloc l_ _⟩
 .by_cases j:num=0
  .by_cases m:256<l.length
   .have f:((num:Int)!=0)=false:=(by simp;omega);have i:(l.length:Int)>256:=(by omega);rw[show checkC _ num l=7 from by unfold checkC;rw[if_neg (by omega),if_neg (by simp[j]),if_pos m]];go_enter func115,ntmps115;go_wp2;go_ret;exact⟨rfl,(Below.refl _ _).alloc l_ _⟩
   have f:((num:Int)!=0)=false:=(by simp;omega);have i:¬(l.length:Int)>256:=(by omega);rw[show checkC _ num l=0 from by unfold checkC;rw[if_neg (by omega),if_neg (by simp[j]),if_neg m]];go_enter func115,ntmps115;go_wp2;go_ret;exact⟨rfl,(Below.refl _ _).alloc l_ _⟩
  have f:((num:Int)!=0)=true:=by simp;omega
  rw[show checkC _ num l=11 from by unfold checkC;rw[if_neg (by omega),if_pos (.inl ⟨.inl rfl,j⟩)]];go_enter func115,ntmps115;go_wp2;go_ret;exact⟨rfl,(Below.refl _ _).alloc l_ _⟩
 .by_cases j:num=0
  .cases hu:utf8 l with
   | false=>
    have f:((num:Int)!=0)=false:=(by simp;omega);rw[show checkC _ num l=11 from by unfold checkC;rw[if_neg (by omega),if_pos (.inr (.inr (.inr ⟨rfl,hu⟩)))]];go_enter func115,ntmps115;go_wp2_with fail;refine(zjD _ _ _ h).mono ?_;rintro e u⟨rfl,rfl⟩;rw[hu];go_wp2;go_ret;exact⟨rfl,(Below.refl _ _).alloc l_ _⟩
   | true=>
    by_cases m:256<l.length
    .have f:((num:Int)!=0)=false:=(by simp;omega);have i:(l.length:Int)>256:=(by omega);rw[show checkC _ num l=7 from by unfold checkC;rw[if_neg (by omega),if_neg (by simp[j,hu]),if_pos m]];go_enter func115,ntmps115;go_wp2_with fail;refine(zjD _ _ _ h).mono ?_;rintro e u⟨rfl,rfl⟩;rw[hu];go_wp2;go_ret;exact⟨rfl,(Below.refl _ _).alloc l_ _⟩
    have f:((num:Int)!=0)=false:=(by simp;omega);have i:¬(l.length:Int)>256:=(by omega);rw[show checkC _ num l=0 from by unfold checkC;rw[if_neg (by omega),if_neg (by simp[j,hu]),if_neg m]];go_enter func115,ntmps115;go_wp2_with fail;refine(zjD _ _ _ h).mono ?_;rintro e u⟨rfl,rfl⟩;rw[hu];go_wp2;go_ret;exact⟨rfl,(Below.refl _ _).alloc l_ _⟩
  have f:((num:Int)!=0)=true:=by simp;omega
  rw[show checkC _ num l=11 from by unfold checkC;rw[if_neg (by omega),if_pos (.inl ⟨.inr rfl,j⟩)]];go_enter func115,ntmps115;go_wp2;go_ret;exact⟨rfl,(Below.refl _ _).alloc l_ _⟩
 by_cases b:l=[]
 .have d:s.toList.isEmpty=true:=by rw[c.o,b];rfl
  have g:¬(l.length:Int)>256:=by rw[b];decide
  rw[show checkC _ num l=0 from by unfold checkC;rw[if_neg (by omega),if_neg (by simp[b]),if_neg (by simp[b])]];go_enter func115,ntmps115;go_wp2;go_ret;exact⟨rfl,(Below.refl _ _).alloc l_ _⟩
 have d:s.toList.isEmpty=false:=by rw[c.o];cases l<;>simp_all
 rw[show checkC _ num l=11 from by unfold checkC;rw[if_neg (by omega),if_pos (.inr (.inl ⟨by omega,b⟩))]];go_enter func115,ntmps115;go_wp2;go_ret;exact⟨rfl,(Below.refl _ _).alloc l_ _⟩
/- -/
structure Kept(lo g:Nat)(w w':World):Prop where
 size:w.heap.size<=w'.heap.size
 block:∀j,lo<=j->j<w.heap.size->j≠g->w'.heap[j]?=w.heap[j]?
def Kept.trans{d g:Nat}{a b c:World}(h:Kept d g a b)(k:Kept d g b c):Kept d g a c :=
 ⟨Nat.le_trans h.size k.size,fun j e f i=>(k.block j e (Nat.lt_of_lt_of_le f h.size) i).trans (h.block j e f i)⟩
def Kept.setCell{c g:Nat}{a b:World}(h:Kept c g a b){p:Addr}(hp:p.block<c)(u:Value):Kept c g a (b.setCell p u) :=
 h.trans ⟨by simp[World.setCell],fun j d _ _=>Below.heap_setCell _ _ _ _ (by omega)⟩
structure Only(S:Nat->Prop)(w w':World):Prop where
 os:w'.os=w.os
 tape:w'.tape=w.tape
 output:w'.output=w.output
 size:w.heap.size<=w'.heap.size
 block:∀j,j<w.heap.size->¬S j->w'.heap[j]?=w.heap[j]?
def Only.refl(S:Nat->Prop)(w:World):Only S w w:=⟨rfl,rfl,rfl,Nat.le_refl _,fun _ _ _=>rfl⟩
def Only.trans{S:Nat->Prop}{a b c:World}(h:Only S a b)(k:Only S b c):Only S a c :=
 ⟨k.os.trans h.os,k.tape.trans h.tape,k.output.trans h.output,Nat.le_trans h.size k.size,fun j d e=>(k.block j (Nat.lt_of_lt_of_le d h.size) e).trans (h.block j d e)⟩
def Only.mono{S T:Nat->Prop}{a b:World}(h:Only S a b)(e:∀j,S j->T j):Only T a b :=
 ⟨h.os,h.tape,h.output,h.size,fun j c d=>h.block j c (fun f=>d (e j f))⟩
def Only.grown{S:Nat->Prop}{a b c:World}{g:Nat}(h:Only S a b)(k:b.grownBy c (some g))(i:S g):Only S a c :=
 h.trans ⟨k.os,k.tape,k.output,k.size,fun j d f=>k.block j d (fun e=>f (by injection e with e;rw[e];exact i))⟩
def Only.below{S:Nat->Prop}{a b c:World}{B:Nat}(h:Only S a b)(k:Below B b c)(e:b.heap.size<=B):Only S a c :=
 h.trans ⟨k.os,k.tape,k.output,k.size,fun j d _=>k.block j (Nat.lt_of_lt_of_le d e)⟩
def Only.setCell{S:Nat->Prop}{a b:World}(h:Only S a b){p:Addr}(hp:S p.block)(u:Value):Only S a (b.setCell p u) :=
 h.trans ⟨rfl,rfl,rfl,by simp[World.setCell],fun j _ c=>Below.heap_setCell _ _ _ _ (fun e=>c (by rw[e];exact hp))⟩
def Only.alloc{S:Nat->Prop}{a b:World}(h:Only S a b)(o:Obj):Only S a (b.alloc o) :=
 h.trans ⟨rfl,rfl,rfl,by simp,fun j c _=>Below.heap_alloc _ _ _ c⟩
def Only.drew{S:Nat->Prop}{a b:World}(h:Only S a b):Only S a b.drew:=⟨h.os,h.tape,h.output,h.size,h.block⟩
def Only.toBelow{S:Nat->Prop}{a b:World}(h:Only S a b){B:Nat}(c:∀j,S j->B<=j)(f:B<=a.heap.size):Below B a b :=
 ⟨h.os,h.tape,h.output,h.size,fun j e=>h.block j (by omega) (fun d=>by have:=c j d;omega)⟩
def Only.kept{S:Nat->Prop}{a b:World}(h:Only S a b){c g:Nat}(e:∀j,S j->j<c\/j=g):Kept c g a b :=
 ⟨h.size,fun j i d k=>h.block j d (fun f=>by have:=e j f;omega)⟩
def Only.keep{S:Nat->Prop}{a b:World}(h:Only S a b){j:Nat}{o:Obj}(c:a.heap[j]?=some o)(d:¬S j):b.heap[j]?=some o :=
 (h.block j (Array.getElem?_eq_some_iff.1 c).1 d).trans c
def new2(w:World)(x y:Obj):((w.alloc x).alloc y).heap.size=w.heap.size+2/\((w.alloc x).alloc y).heap[w.heap.size]?=some x/\((w.alloc x).alloc y).heap[w.heap.size+1]?=some y/\Below w.heap.size w ((w.alloc x).alloc y):=by
 refine⟨by simp,?_,?_,((Below.refl _ w).alloc (Nat.le_refl _) _).alloc (by simp) _⟩
 .rw[Below.heap_alloc _ _ _ (by simp)];exact heap_alloc_new _ _
 have:=heap_alloc_new (w.alloc x) y;simpa using this
def new3(w:World)(x y z:Obj):(((w.alloc x).alloc y).alloc z).heap.size=w.heap.size+3/\(((w.alloc x).alloc y).alloc z).heap[w.heap.size]?=some x/\(((w.alloc x).alloc y).alloc z).heap[w.heap.size+1]?=some y /\(((w.alloc x).alloc y).alloc z).heap[w.heap.size+2]?=some z/\Below w.heap.size w (((w.alloc x).alloc y).alloc z):=by
 obtain⟨b,c,d,e⟩:=new2 w x y;refine⟨by simp,?_,?_,?_,e.alloc (by omega) _⟩
 .rw[Below.heap_alloc _ _ _ (by omega)];exact c
 .rw[Below.heap_alloc _ _ _ (by omega)];exact d
 rw[<-b];exact heap_alloc_new _ _
def news(os:List Obj):∀(w:World),(os.foldl World.alloc w).heap.size=w.heap.size+os.length/\(∀i o,os[i]?=some o->(os.foldl World.alloc w).heap[w.heap.size+i]?=some o)/\Below w.heap.size w (os.foldl World.alloc w):=by
 induction os with
 | nil=>exact fun w=>⟨rfl,fun i o h=>by simp at h,Below.refl _ _⟩
 | cons a r ih=>
  intro w;obtain⟨d,c,b⟩:=ih (w.alloc a);have e:(w.alloc a).heap.size=w.heap.size+1:=by simp
  rw[e]at d c b;refine⟨by simp only[List.foldl_cons,List.length_cons];omega,fun i o h=>?_,((Below.refl _ w).alloc (Nat.le_refl _) a).trans (b.mono (by omega))⟩;cases i with
  | zero=>
   simp only[List.getElem?_cons_zero,Option.some.injEq]at h;subst h;exact(b.block _ (by omega)).trans (heap_alloc_new _ _)
  | succ i=>
   simp only[List.getElem?_cons_succ]at h;have:=c i o h;rw[show w.heap.size+1+i=w.heap.size+(i+1)from by omega]at this;exact this
/- -/
structure Elt where
 S:TypeId
 T:TypeId
 n:Nat
 bytes:Nat
 zero:Value
structure Elt.Ok(E:Elt):Prop where
 hS:prog.underlying E.S=some (.slice E.T)
 hel:prog.elem E.S=E.T
 info:(prog.info? E.T).map (fun i=>(i.zero,i.size,i.bytes))=some (some E.zero,E.n,E.bytes)
 hz:E.zero.cells.size=E.n
 hn:0<E.n
def zaF(b o:Nat)(n c k:Nat):adr (.slice (some ⟨b,o,none⟩) n c) k=⟨b,o+k,none⟩:=by simp only[adr,Addr.add];split<;>simp_all
structure RdG(E:Elt)(w:World)(v:Value)(vs:List (List Value)):Prop where
 shape:∃ao cap,v=.slice ao vs.length cap/\vs.length<=cap/\(ao=none->cap=0)/\(0<vs.length->∃b o,ao=some ⟨b,o,none⟩)
 cells:∀i,i<vs.length->∀j u,(vs.getD i [])[j]?=some u->w.cell? (adr v (i*E.n+j))=some u
 wid:∀x∈vs,x.length=E.n
 small:vs.length<=140737488351232
section
variable{E:Elt}{w w':World}{v:Value}{vs:List (List Value)}
def RdG.get(h:RdG E w v vs){i:Nat}(b:i<vs.length):(vs.getD i []).length=E.n:=by
 have e:vs.getD i []=vs[i]:=by simp[List.getD,b]
 rw[e];exact h.wid _ (List.getElem_mem _)
def RdG.block(h:RdG E w v vs)(d:E.Ok){i:Nat}(b:i<vs.length):(adr v (i*E.n)).block<w.heap.size:=by
 have e:=h.get b;have f:=d.hn;have c:(vs.getD i [])[0]?=some ((vs.getD i [])[0]'(by omega)):=List.getElem?_eq_getElem _;have:=h.cells i b 0 _ c;rw[Nat.add_zero]at this;exact World.block_lt_of_cell? w _ this
def RdG.blk(h:RdG E w v vs){i:Nat}(d:i<vs.length)(j k:Nat):(adr v j).block=(adr v k).block:=by
 obtain⟨c,cap,rfl,_,_,hp⟩:=h.shape;obtain⟨b,o,rfl⟩:=hp (by omega);rw[zaF,zaF]
def RdG.same(h:RdG E w v vs)(c:∀i,i<vs.length->w'.heap[(adr v (i*E.n)).block]?=w.heap[(adr v (i*E.n)).block]?):RdG E w' v vs :=
 ⟨h.shape,fun i b j u d=>(World.cell?_of_block (by rw[h.blk b (i*E.n+j) (i*E.n)];exact c i b)).trans (h.cells i b j u d),h.wid,h.small⟩
def RdG.later(h:RdG E w v vs)(c:E.Ok){B:Nat}(d:Below B w w')(b:w.heap.size<=B):RdG E w' v vs :=
 h.same fun i e=>d.block _ (Nat.lt_of_lt_of_le (h.block c e) b)
def RdG.drew(h:RdG E w v vs):RdG E w.drew v vs:=⟨h.shape,h.cells,h.wid,h.small⟩
def RdG.nil(E:Elt)(w:World):RdG E w (.slice none 0 0) [] :=
 ⟨⟨none,0,rfl,l_,fun _=>rfl,fun h=>absurd h (by simp)⟩,fun i b=>absurd b (by simp),fun x c=>absurd c (by simp),by simp⟩
def RdG.len(h:RdG E w v vs)(b:E.Ok):∀u,(Builtin.len_ #[E.S] 3 #[v]).run prog u=.ok (.int .i64 (vs.length:Int)) u:=by
 intro u;obtain⟨⟨c,cap,rfl,_⟩,_,_,_⟩:=h;exact run_len_slice u _ _ c _ _ (by rw[b.hel];exact b.hS)
def RdG.idx(h:RdG E w v vs)(e:E.Ok)(i:Nat)(l:i<vs.length) :∀u,(Instr.indexAt E.S v (.int .i64 (i:Int))).run prog u=.ok (.pointer (some (adr v (i*E.n)))) u:=by
 intro u;obtain⟨⟨k,cap,rfl,_,_,hp⟩,_,_,_⟩:=h;obtain⟨b,o,rfl⟩:=hp (by omega);have:=run_indexAt_slice (P:=prog) u E.S ⟨b,o,none⟩ vs.length cap .i64 i (by rw[e.hel];exact e.hS);rw[this,if_pos ⟨by omega,by omega⟩];obtain⟨d,f,g⟩:=Option.map_eq_some_iff.1 e.info;have j:d.size=E.n:=by
  have:=congrArg (fun x=>x.2.1) g;exact this
 have c:prog.info? (prog.elem E.S)=some d:=by rw[e.hel];exact f
 simp[sizeOf,typeInfo,c,j,Result.andThen,adr]
def RdG.at(h:RdG E w v vs){i:Nat}(c:i<vs.length):∃b o,adr v (i*E.n)=⟨b,o,none⟩/\∀j u,(vs.getD i [])[j]?=some u->w.cell? ⟨b,o+j,none⟩=some u:=by
 obtain⟨e,cap,rfl,_,_,hp⟩:=id h.shape;obtain⟨b,o,rfl⟩:=hp (by omega);refine⟨b,o+i*E.n,zaF _ _ _ _ _,fun j u d=>?_⟩;have:=h.cells i c j u d;rw[zaF,<-Nat.add_assoc]at this;exact this
def OwnG(E:Elt)(w:World)(base:Nat)(v:Value)(vs:List (List Value)):Prop :=
 w.ownsRow base E.T E.n v vs.length vs.flatten/\(∀x∈vs,x.length=E.n)/\∀x∈vs,∀u∈x,u.oneCell'=true
def zhV{n:Nat}:∀(vs:List (List Value)),(∀x∈vs,x.length=n)->∀i j u,i<vs.length->(vs.getD i [])[j]?=some u->vs.flatten[i*n+j]?=some u
 | [],_,i,j,u,hi,_=>absurd hi (by simp)
 | x::r,hw,0,j,u,_,h=>by
  have b:=hw x (by simp);have c:j<x.length:=by
   have:((x::r).getD 0 [])=x:=rfl;rw[this]at h;exact(List.getElem?_eq_some_iff.1 h).1
  rw[Nat.zero_mul,Nat.zero_add,List.flatten_cons,List.getElem?_append_left c];exact h
 | x::r,hw,i+1,j,u,hi,h=>by
  have b:=hw x (by simp);have ih:=zhV r (fun y d=>hw y (by simp[d])) i j u (by simp at hi;omega) h;rw[List.flatten_cons,List.getElem?_append_right (by rw[b,Nat.add_mul];omega),b,show(i+1)*n+j-n=i*n+j from by rw[Nat.add_mul];omega];exact ih
def OwnG.rd{base:Nat}(h:OwnG E w base v vs)(m:vs.length<=140737488351232):RdG E w v vs:=by
 obtain⟨c,d,_⟩:=h;have k:=fun g=>World.ownsRow.cells (g:=g) c;obtain⟨_,f⟩:=c;rcases f with⟨rfl,b⟩|⟨g,cap,e,rfl,_,r,b,hm,_⟩
 .have:vs=[]:=List.eq_nil_of_length_eq_zero b;subst this;exact RdG.nil E w
 refine⟨⟨_,cap,rfl,b,(by intro h;cases h),fun _=>⟨g,0,rfl⟩⟩,fun i l j u p=>?_,d,m⟩;exact k g rfl (i*E.n+j) u (zhV vs d i j u l p)
def OwnG.later{base B:Nat}(h:OwnG E w base v vs)(i:Below B w w')(f:w.heap.size<=B):OwnG E w' base v vs:=by
 refine⟨⟨h.1.1,?_⟩,h.2⟩;rcases h.1.2 with e|⟨g,cap,b,rfl,c,d,r⟩
 .exact .inl e
 refine .inr ⟨g,cap,b,rfl,c,?_,r⟩;rw[i.block g (Nat.lt_of_lt_of_le (Array.getElem?_eq_some_iff.1 d).1 f)];exact d
def OwnG.grown{base:Nat}(h:OwnG E w base v vs){r:Option Nat}(i:w.grownBy w' r)(e:∀k,v.ownBlock=some k->some k≠r):OwnG E w' base v vs:=by
 refine⟨⟨h.1.1,?_⟩,h.2⟩;rcases h.1.2 with f|⟨g,cap,c,rfl,d,b,q⟩
 .exact .inl f
 refine .inr ⟨g,cap,c,rfl,d,?_,q⟩;rw[i.block g (Array.getElem?_eq_some_iff.1 b).1 (e g rfl)];exact b
def OwnG.alloc{base:Nat}(h:OwnG E w base v vs)(o:Obj):OwnG E (w.alloc o) base v vs:=⟨World.ownsRow.alloc h.1 o,h.2⟩
def OwnG.drew{base:Nat}(h:OwnG E w base v vs):OwnG E w.drew base v vs:=h.later ((Below.refl w.heap.size w).drew) l_
def OwnG.nil(E:Elt)(w:World)(base:Nat):OwnG E w base (.slice none 0 0) []:=⟨World.ownsRow_nil w base _ _,by simp,by simp⟩
def OwnG.base{base base':Nat}(h:OwnG E w base v vs)(e:base'<=base):OwnG E w base' v vs:=by
 refine⟨⟨h.1.1,?_⟩,h.2⟩;rcases h.1.2 with d|⟨g,cap,b,rfl,c,r⟩
 .exact .inl d
 exact .inr ⟨g,cap,b,rfl,Nat.le_trans e c,r⟩
def OwnG.lt{base:Nat}(h:OwnG E w base v vs){k:Nat}(b:v.ownBlock=some k):base<=k/\k<w.heap.size:=World.ownsRow.lt h.1 k b
def zjR(d:E.Ok){ops:Array Oper}{Q:Exit->Act->World->Prop}{rest:List Oper}{a:Act}{dst:Option Tmp}{ty:TypeId}{pos:String}{aft:Array Edge}{s x:Operand}(base:Nat)(f:Value)(V:a.eval s=f)(e:OwnG E w base f vs)(i:Addr)(u:List Value)(X:a.eval x=.slice (some i) 1 1)(G:u.length=E.n)(A:∀z∈u,z.oneCell'=true)(L:∀j z,u[j]?=some z->w.cell? (i.add j)=some z)(O:(vs.length+1)*E.bytes<=140737488355328)(U:vs.length+1<=140737488355328)(c:base<=w.heap.size)(B:Nat)(I:World)(J:Below B I w)(m:B<=base)(h:∀g w',OwnG E w' base g (vs++[u])->Below B I w'->w.grownBy w' f.ownBlock->wpList prog ops Q rest (a.put dst g) w') :wpList prog ops Q (⟨dst,.call ⟨.builtin .append,#[s,x],#[E.S,E.S]⟩,ty,pos,aft,none⟩::rest) a w:=by
 obtain⟨Y,M,p,r,t⟩:=info_parts d.info;refine wpList_append_own w rfl s x E.S rfl base E.T Y E.zero E.n E.bytes d.hS M p r t d.hz d.hn f vs.length vs.flatten V e.1 i 1 1 u X (by rw[G];omega) L A (by unfold maxLen;omega) O c ?_;intro g w' l D _;refine h g w' ⟨?_,?_,?_⟩ (J.grown D (by omega) fun k N=>?_) D
 .rw[List.length_append,List.flatten_append,List.flatten_singleton];exact l
 .intro y b;rcases List.mem_append.1 b with b|b
  .exact e.2.1 y b
  rw[List.mem_singleton.1 b];exact G
 .intro y b;rcases List.mem_append.1 b with b|b
  .exact e.2.2 y b
  rw[List.mem_singleton.1 b];exact A
 exact Nat.le_trans m (World.ownsRow.lt e.1 k N).1
end
/- -/
def zdA{s:ByteArray}(h:s.size<=140737488351232):RdS s s.data.toList:=⟨by cases s;rfl,by simpa using h⟩
def getD_map{α:Type}(f:α->List Value)(l:List α)(i:Nat)(b:i<l.length)(d:α):(l.map f).getD i []=f (l.getD i d):=by
 simp[List.getD,b]
def zFT{s t:ByteArray}(h:s≠t):(s.toList==t.toList)=false/\(s.toList !=t.toList)=true:=by
 have:s.toList≠t.toList:=by
  rw[Lib.toList_data,Lib.toList_data];intro e;exact h (by cases s;cases t;simp at e;rw[e])
 exact⟨by simpa using this,by simpa using this⟩
def zaH{α:Type}{l:List α}{k:Nat}(h:k<l.length)(d:α):l.take (k+1)=l.take k++[l.getD k d]:=by
 rw[List.take_succ_eq_append_getElem h];simp[List.getD,h]
/- -/
section
variable{H:Type}{enc:TypeId×Value->H}{W:World}
end
/- -/
def RdS.size9{s:ByteArray}{l:Bs}(h:RdS s l):s.size=l.length:=by rw[h.eq];simp[ByteArray.size]
def RdS.takeS{s:ByteArray}{l:Bs}(h:RdS s l)(k:Nat):RdS (s.extract 0 k) (l.take k):=by
 refine⟨?_,by have:=h.small;simp;omega⟩;rw[h.eq];apply ByteArray.ext;simp[ByteArray.size]
def RdS.dropS{s:ByteArray}{l:Bs}(h:RdS s l)(k:Nat):RdS (s.extract k s.size) (l.drop k):=by
 refine⟨?_,by have:=h.small;simp;omega⟩;rw[h.eq];apply ByteArray.ext;simp[ByteArray.size];exact List.take_of_length_le (by simp)
def RdS.app9{a b:ByteArray}{l m:Bs}(c:RdS a l)(d:RdS b m)(h:l.length+m.length<=140737488351232):RdS (a++b) (l++m):=by
 refine⟨?_,by simpa using h⟩;rw[c.eq,d.eq];apply ByteArray.ext;simp
/- -/
section
variable{ops:Array Oper}{a:Act}{w:World}{K:Act->World->Prop}{Q:Exit->Act->World->Prop}{E:Prop}{dst:Option Tmp}{ty:TypeId}{pos:String}{aft:Array Edge}{s x:Operand}{gu:Option (Nat×Bool)}
def zd8(base:Nat)(f:Value)(m:Bs)(L:Value)(l:Bs)(V:Region.wanted ⟨dst,.call ⟨.builtin .append,#[s,x],#[34,34]⟩,ty,pos,aft,gu⟩ (yielded ops a.tmps)=true)(U:a.eval s=f)(I:Own w base f m)(X:a.eval x=L)(M:Rd w L l)(hd:0<l.length)(hn:m.length+l.length<=140737488355328)(c:base<=w.heap.size)(B:Nat)(J:World)(N:Below B J w)(i:B<=base)(h:∀g w',Own w' base g (m++l)->Below B J w'->w.grownBy w' f.ownBlock->K (a.put dst g) w') :if Region.wanted ⟨dst,.call ⟨.builtin .append,#[s,x],#[34,34]⟩,ty,pos,aft,gu⟩ (yielded ops a.tmps)=true then Oper.wp prog ⟨dst,.call ⟨.builtin .append,#[s,x],#[34,34]⟩,ty,pos,aft,gu⟩ a w K Q else E:=by
 rw[if_pos V];obtain⟨Y,O,p,r,t⟩:=info_parts zgB;obtain⟨⟨Z,cap,rfl,D,G,d⟩,e,_⟩:=M;obtain⟨b,o,rfl⟩:=d (by omega);refine wp_append_own w s x 34 rfl base 5 Y (.int .u8 0) 1 1 underlying34 O p r t rfl (by decide) f m.length (za7 m) U I ⟨b,o,none⟩ l.length cap (za7 l) X (by simp[za1]) ?_ (zbL l) (by unfold maxLen;omega) (by omega) c ?_
 .intro j u S;obtain⟨n,rfl⟩:=zbM S;exact e j n
 intro g w' y A _;refine h g w' ?_ (N.grown A (by omega) fun k T=>?_) A
 .rw[<-zaG]at y;unfold Own;rw[List.length_append];exact y
 exact Nat.le_trans i (World.ownsRow.lt I k T).1
end
/- -/
def zm8{B:Nat}:OrdR.Way (Below B):=⟨Below.refl B,fun _ _ _ h k=>h.trans k⟩
instance nonempty_belowGW{B:Nat}(w:World):Nonempty (OrdR.GW (Below B) w):=⟨⟨w,Below.refl B w⟩⟩
abbrev Aa:=@if_neg
abbrev Ab:=@if_pos
abbrev Ac:=@Below.refl
abbrev Ad:=@List.length_map
abbrev Ae:=@List.length_append
abbrev Af:=@decide_eq_false
abbrev Ag:=@cell_of_row
abbrev Ah:=@decide_eq_true
abbrev Ai:=@Lib.hid
abbrev Aj:=@Array.getElem?_eq_some_iff
abbrev Ak:=@OrdR.ord_still
abbrev Al:=@And.intro
abbrev Am:=@List.take_of_length_le
abbrev An:=@List.append_assoc
abbrev Ao:=@bne_iff_ne
abbrev Ap:=@List.length_cons
abbrev Aq:=@List.length_take
abbrev Ar:=@Nat.le_trans
abbrev As:=@beq_eq_false_iff_ne
abbrev At:=@frozen_of_row
abbrev Au:=@List.mem_map
abbrev Av:=@Decidable.of_not_not
abbrev Aw:=@Int.toNat_natCast
abbrev Ax:=@OrdR.ord_loud
abbrev Ay:=@List.length_drop
abbrev Az:=@World.size_alloc
abbrev AA:=@List.nil_append
abbrev AB:=@heap_alloc_new
abbrev AC:=@List.map_append
abbrev AD:=@List.mem_append
abbrev AE:=@Nat.lt_of_lt_of_le
abbrev AF:=@Below.heap_setCell
abbrev AG:=@List.getElem?_eq_some_iff
abbrev AH:=@List.mem_singleton
abbrev AI:=@World.block_lt_of_cell?
abbrev AJ:=@List.getElem?_eq_getElem
abbrev AK:=@Nat.le_refl
abbrev AM:=@List.getElem_mem
abbrev AN:=@List.length_singleton
abbrev AQ:=@List.cons_append
abbrev AR:=@List.eq_nil_of_length_eq_zero
abbrev AS:=@Below.heap_alloc
abbrev AT:=@List.map_cons
abbrev AU:=@List.take_zero
abbrev AV:=@List.append_nil
abbrev AW:=@List.getElem?_of_mem
abbrev AY:=@OrdR.wp_region_ord
abbrev AZ:=@List.mem_of_getElem?
abbrev A0:=@List.take_append_drop
abbrev A5:=@Nat.zero_add
abbrev A6:=@List.map_map
abbrev A7:=@Nat.min_eq_left
abbrev A8:=@List.setIfInBounds_toArray
abbrev A9:=@List.mem_of_mem_take
abbrev Ba:=@List.mem_cons
abbrev Bb:=@World.size_setCell
abbrev Bc:=@List.set_cons_succ
abbrev Bd:=@List.length_zip
abbrev Be:=@List.length_set
abbrev Bf:=@List.drop_eq_getElem_cons
abbrev Bg:=@Nat.zero_le
abbrev Bh:=@List.length_nil
abbrev Bi:=@World.cell?_of_block
abbrev Bj:=@List.drop_of_length_le
abbrev Bk:=@OrdR.ord_nil
abbrev Bl:=@Nat.pow_succ
abbrev Bm:=@Lib.run_eql_slice_nil
abbrev Bn:=@Nat.mul_le_mul_left
abbrev Bo:=@List.take_length
abbrev Bq:=@Int.eq_ofNat_of_zero_le
abbrev Br:=@List.size_toArray
abbrev Bt:=@List.flatten_cons
abbrev Bu:=@List.mem_or_eq_of_mem_set
abbrev Bv:=@Nat.add_sub_cancel
abbrev Bw:=@List.set_cons_zero
abbrev Bz:=@List.drop_zero
abbrev BA:=@Nat.mod_eq_of_lt
abbrev BB:=@List.take_succ_eq_append_getElem
abbrev BC:=@List.take_succ_cons
abbrev BD:=@Nat.add_assoc
abbrev BE:=@Nat.pow_le_pow_right
abbrev BF:=@List.zip_cons_cons
abbrev BG:=@Nat.div_div_eq_div_mul
abbrev BH:=@List.take_append_of_le_length
abbrev BI:=@List.map_congr_left
abbrev BJ:=@List.getD_cons_zero
abbrev BK:=@List.getD_cons_succ
abbrev BL:=@List.take_add_one
abbrev BN:=@List.length_replicate
abbrev BO:=@List.eq_of_mem_replicate
abbrev BP:=@Nat.two_pow_pos
abbrev BQ:=@List.pairwise_cons
abbrev BR:=@List.take_left'
abbrev BS:=@Nat.mul_comm
abbrev BT:=@Nat.sub_self
abbrev BU:=@Array.replicate_succ
abbrev BV:=@Array.replicate_zero
abbrev BW:=@List.getElem?_set_ne
abbrev BZ:=@List.mem_of_mem_drop
abbrev B0:=@List.drop_drop
abbrev B3:=@List.mem_range
abbrev B4:=@List.drop_left'
abbrev B7:=@List.append_toArray
abbrev B9:=@List.drop_left
abbrev Ca:=@List.length_filter_le
abbrev Cb:=@Nat.mul_le_mul_right
abbrev Cc:=@List.push_toArray
abbrev Cd:=@List.take_append
abbrev Cf:=@List.take_take
abbrev Cg:=@List.mem_flatten
abbrev Ch:=@List.drop_eq_nil_of_le
abbrev Ci:=@List.range_succ_eq_map
abbrev Cj:=@Array.getD_eq_getD_getElem?
abbrev Ck:=@List.getElem?_toArray
abbrev Cl:=@List.getElem?_append_right
abbrev Cm:=@of_decide_eq_true
abbrev Cn:=@List.length_range
abbrev Co:=@Bool.eq_false_iff
abbrev Cp:=@Int.compare_eq_lt
abbrev Cq:=@Int.compare_eq_gt
abbrev Cr:=@Nat.or_lt_two_pow
abbrev Cs:=@List.getElem?_append_left
abbrev Ct:=@List.mem_cons_of_mem
abbrev Cu:=@Nat.lt_or_ge
abbrev Cv:=@List.getElem?_take_of_lt
abbrev Cw:=@List.flatten_append
abbrev Cx:=@List.length_eq_zero_iff
abbrev Cy:=@List.take_add
abbrev Cz:=@List.mem_cons_self
abbrev CD:=@List.map_replicate
abbrev CE:=@Nat.pow_add
abbrev CF:=@List.getElem?_set_self
abbrev CG:=@List.map_id
abbrev CH:=@List.getElem?_set
abbrev CI:=@Int.lt_trichotomy
abbrev CJ:=@Nat.add_zero
abbrev CM:=@Nat.le_of_eq
abbrev CQ:=@Nat.le_of_ble_eq_true
abbrev CU:=@Array.getElem?_setIfInBounds
abbrev CV:=@List.all_eq_true
abbrev CX:=@Bool.and_eq_true
abbrev CY:=@Nat.mul_assoc
abbrev CZ:=@Array.toList_setIfInBounds
abbrev C2:=@Nat.le_succ
abbrev C3:=@List.replicate_succ
abbrev C4:=@List.drop_succ_cons
abbrev C5:=@List.mem_map_of_mem
abbrev C6:=@Nat.eq_zero_or_pos
abbrev C7:=@List.map_singleton
abbrev C8:=@Nat.xor_lt_two_pow
abbrev C9:=@Nat.or_eq_zero_iff
abbrev Da:=@List.take_left
abbrev Db:=@List.flatMap_cons
abbrev Dc:=@World.cells?_some
abbrev Dd:=@Int.compare_eq_eq
abbrev De:=@Nat.add_mul
abbrev Df:=@Nat.log2_lt
abbrev Dg:=@List.map_take
abbrev Lz(a b:World):Prop:=Below a.heap.size a b
end Go.Proofs.YtgboedffaangeaaGreatDoor
