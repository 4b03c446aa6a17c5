/- -/
import Derived.Test.YtlapgdocpndfiaaGreatDoorProg
import Derived.WalkKit
import Derived.WalkSpells
import Derived.WalkLawsBesides
import Derived.Laws.CopyOwn
import Derived.Laws.AppendOwnNone
import Derived.Lib.Hide
import Derived.BigQuiet
import Derived.Test.YtlapgdocpndfiaaGreatDoorRows
import Derived.ProofKit
import Derived.OpenShut
import Derived.ShutString
import Derived.ChangeOld
import Derived.SizedLaws
import Derived.Lib.Strings
import Derived.Below
import Derived.Deep.RegionHeld3
set_option maxHeartbeats 4000000
set_option linter.unusedVariables false
set_option linter.unusedSimpArgs false
set_option maxRecDepth 1000000
namespace Go.Proofs.YtlapgdocpndfiaaGreatDoor
open _root_.Go.Proofs.Tryz
open Go.RowKit in
theorem h_ {P : Prop} (h : P) : Hid P := Lib.hid h
theorem l_ {n : Nat} : n ≤ n := Nat.le_refl n
theorem nm_ {α:Sort _} (x:α):∃ n,n=x:=⟨_,rfl⟩
open Go.RowKit in
theorem bT {w a b:World} (h:Hid (Below w.heap.size w a)) (k:Below a.heap.size a b):Hid (Below w.heap.size w b):=h.out.trans (k.mono h.out.size)
theorem _root_.Go.RowKit.Hid.o {P:Prop} (h:Go.RowKit.Hid P):P:=h.out
abbrev Bs:=List UInt8
open Go.RowKit
def zeU (b:UInt8):Value:=.int .u8 (b.toNat:Int)
def za6 (l:Bs):List Value:=l.map zeU
def at8 (l:Bs) (i:Nat):Int:=((l.getD i 0).toNat:Int)
def adr:Value->Nat->Addr
 | .slice (some a) _ _,i=>a.add i
 | _,_=>default
theorem zeH (l:Bs) (i:Nat):0<=at8 l i:=by unfold at8;omega
theorem zcZ (l:Bs) (i:Nat):at8 l i<=255:=by
 unfold at8;have:=(l.getD i 0).toNat_lt;omega
theorem zhZ {l:Bs} {i:Nat} (h:i < l.length):at8 l i=(l[i].toNat:Int):=by
 unfold at8;simp [List.getD,h]
theorem za0 (l:Bs):(za6 l).length=l.length:=by simp [za6]
theorem zaG (l m:Bs):za6 (l ++ m)=za6 l ++ za6 m:=by simp [za6]
theorem zbK (l:Bs):∀ u ∈ za6 l,u.oneCell'=true:=by
 intro u hu;obtain ⟨_,_,rfl⟩:=List.mem_map.1 hu;rfl
theorem zbL {l:Bs} {i:Nat} {u:Value} (h:(za6 l)[i]?=some u):i < l.length/\u=.int .u8 (at8 l i):=by
 have hi:i < l.length:=by
  have:=(List.getElem?_eq_some_iff.1 h).1;simpa [za6] using this
 refine ⟨hi,?_⟩;rw [zhZ hi];simp [za6,hi] at h;exact h.symm
theorem zkI {l:Bs} {i:Nat} (hi:i < l.length):(za6 l)[i]?=some (.int .u8 (at8 l i)):=by
 rw [zhZ hi];simp [za6,hi,zeU]
structure Rd (w:World) (v:Value) (l:Bs):Prop where
 shape:∃ ao cap,v=.slice ao l.length cap/\l.length<=cap/\(ao=none->cap=0)/\(0 < l.length->∃ b o,ao=some ⟨b,o,none⟩)
 cells:∀ i,i < l.length->w.cell? (adr v i)=some (.int .u8 (at8 l i))
 small:l.length<=140737488351232
def Own (w:World) (base:Nat) (v:Value) (l:Bs):Prop:=w.ownsRow base 5 1 v l.length (za6 l)
theorem Rd.block {w:World} {v:Value} {l:Bs} (h:Rd w v l) {i:Nat} (hi:i < l.length):(adr v i).block < w.heap.size :=
 World.block_lt_of_cell? w _ (h.cells i hi)
theorem zFO {w:World} {v:Value} {l:Bs} (h:Rd w v l) (i j:Nat) (hj:j < l.length):(adr v i).block=(adr v j).block:=by
 obtain ⟨⟨ao,cap,rfl,_,_,hp⟩,_,_⟩:=h;obtain ⟨b,o,rfl⟩:=hp (by omega);simp [adr,Addr.add];split <;> split <;> rfl
theorem Rd.later {w w':World} {v:Value} {l:Bs} (h:Rd w v l) {B:Nat} (hb:Below B w w') (hB:w.heap.size<=B):Rd w' v l :=
 ⟨h.shape,fun i hi=>by rw [hb.cell (Nat.lt_of_lt_of_le (h.block hi) hB)];exact h.cells i hi,h.small⟩
theorem Rd.drew {w:World} {v:Value} {l:Bs} (h:Rd w v l):Rd w.drew v l:=⟨h.shape,h.cells,h.small⟩
theorem Rd.alloc {w:World} {v:Value} {l:Bs} (h:Rd w v l) (o:Obj):Rd (w.alloc o) v l :=
 h.later ((Below.refl w.heap.size w).alloc (Nat.le_refl _) o) (Nat.le_refl _)
theorem Rd.nil (w:World):Rd w (.slice none 0 0) [] :=
 ⟨⟨none,0,rfl,Nat.le_refl _,fun _=>rfl,fun h=>absurd h (by simp)⟩,fun i hi=>absurd hi (by simp),by simp⟩
theorem Own.rd {w:World} {base:Nat} {v:Value} {l:Bs} (h:Own w base v l) (hs:l.length<=140737488351232):Rd w v l:=by
 have hc:=fun g=>World.ownsRow.cells (g:=g) h;obtain ⟨_,h2⟩:=h;rcases h2 with ⟨rfl,hn⟩ | ⟨g,cap,cur,rfl,_,hg,hn,hm,_⟩
 ·have:l=[]:=List.eq_nil_of_length_eq_zero hn;subst this;exact Rd.nil w
 refine ⟨⟨_,cap,rfl,hn,(by intro h;cases h),fun _=>⟨g,0,rfl⟩⟩,fun i hi=>?_,hs⟩;exact hc g rfl i _ (zkI hi)
theorem Own.later {w w':World} {base B:Nat} {v:Value} {l:Bs} (h:Own w base v l) (hb:Below B w w') (hB:w.heap.size<=B):Own w' base v l:=by
 refine ⟨h.1,?_⟩;rcases h.2 with h2 | ⟨g,cap,cur,rfl,hbg,hg,r⟩
 ·exact .inl h2
 refine .inr ⟨g,cap,cur,rfl,hbg,?_,r⟩;rw [hb.block g (Nat.lt_of_lt_of_le (Array.getElem?_eq_some_iff.1 hg).1 hB)];exact hg
theorem Own.base {w:World} {base base':Nat} {v:Value} {l:Bs} (h:Own w base v l) (hb:base'<=base):Own w base' v l:=by
 refine ⟨h.1,?_⟩;rcases h.2 with h2 | ⟨g,cap,cur,rfl,hbg,r⟩
 ·exact .inl h2
 exact .inr ⟨g,cap,cur,rfl,Nat.le_trans hb hbg,r⟩
theorem Rd.len {w:World} {v:Value} {l:Bs} (h:Rd w v l):∀ u,(Builtin.len_ #[22] 3 #[v]).run prog u=.ok (.int .i64 (l.length:Int)) u:=by
 intro u;obtain ⟨⟨ao,cap,rfl,_⟩,_,_⟩:=h;exact run_len_slice u _ _ ao _ _ underlying22
theorem Rd.idx {w:World} {v:Value} {l:Bs} (h:Rd w v l) (i:Nat) (hi:i < l.length):∀ u,(Instr.indexAt 22 v (.int .i64 (i:Int))).run prog u=.ok (.pointer (some (adr v i))) u:=by
 intro u;obtain ⟨⟨ao,cap,rfl,_,_,hp⟩,_,_⟩:=h;obtain ⟨b,o,rfl⟩:=hp (by omega);have:=run_indexAt_slice (P:=prog) u 22 ⟨b,o,none⟩ l.length cap .i64 i underlying22;rw [this,if_pos ⟨by omega,by omega⟩];simp [go_sem,Result.andThen,adr]
theorem zj5:(prog.info? 5).map (·.size)=some 1:=by kernel_rfl
theorem zgY:(prog.info? 5).map (fun i=>(i.zero,i.size,i.bytes))=some (some (.int .u8 0),1,1):=by kernel_rfl
theorem zfZ (cur l:Bs) (off:Nat):splice (za6 cur) off (za6 l)=za6 (splice cur off l):=by
 simp [splice,za6]
theorem zsH {ops:Array Oper} {Q:Exit->Act->World->Prop} {rest:List Oper} {a:Act} {w:World} {dst:Option Tmp} {ty:TypeId} {pos:String} {aft:Array Edge} {d s:Operand}
  (dp:Option Addr) (dLen dCap:Nat) (hd:a.eval d=.slice dp dLen dCap) (sv:Value) (l:Bs) (hs:a.eval s=sv) (hR:Rd w sv l) (hn:l.length<=dLen)
  (g off:Nat) (cur:Bs) (hg:w.heap[g]?=some (.cells (za6 cur).toArray 5 (0,0))) (hdp:0 < l.length->dp=some ⟨g,off,none⟩) (hfit:off + l.length<=cur.length)
  (B:Nat) (w0:World) (hb:Below B w0 w) (hBg:B<=g)
  (h:∀ w',Hid (w'.heap[g]?=some (.cells (za6 (splice cur off l)).toArray 5 (0,0)))->Below B w0 w'->wpList prog ops Q rest (a.put dst (.int .i64 (l.length:Int))) w') :
  wpList prog ops Q (⟨dst,.call ⟨.builtin .copy,#[d,s],#[22,22]⟩,ty,pos,aft,none⟩ :: rest) a w:=by
 obtain ⟨⟨ao,cap,rfl,hcap,hnil,hsome⟩,hcel,_⟩:=hR;refine wpList_copy_splice rfl d s 22 22 rfl 5 underlying22 zj5 dp ao dLen dCap l.length cap hd hs g off (za6 cur) 5 hg (za6 l) ?_ ?_ ?_ (zbK l) B w0 hb hBg ?_
 ·rw [za0];exact (Nat.min_eq_left hn).symm
 ·intro hp;rw [za0] at hp;obtain ⟨b,o,rfl⟩:=hsome hp;refine ⟨hdp hp,_,rfl,fun j u hj=>?_⟩;obtain ⟨hj1,rfl⟩:=zbL hj;exact hcel j hj1
 ·simpa [za0] using hfit
 intro w' hg' hb';rw [zfZ] at hg';have:=h w' hg' hb';simpa [goInt,za0] using this
theorem wpl_copy_part {ops:Array Oper} {Q:Exit->Act->World->Prop} {rest:List Oper} {a:Act} {w:World} {dst:Option Tmp} {ty:TypeId} {pos:String} {aft:Array Edge} {d s:Operand}
  (dp:Option Addr) (dLen dCap:Nat) (hd:a.eval d=.slice dp dLen dCap) (sv:Value) (l:Bs) (hs:a.eval s=sv) (hR:Rd w sv l) (hn:dLen<=l.length)
  (g off:Nat) (cur:Bs) (hg:w.heap[g]?=some (.cells (za6 cur).toArray 5 (0,0))) (hdp:0 < dLen->dp=some ⟨g,off,none⟩) (hfit:off + dLen<=cur.length)
  (B:Nat) (w0:World) (hb:Below B w0 w) (hBg:B<=g)
  (h:∀ w',Hid (w'.heap[g]?=some (.cells (za6 (splice cur off (l.take dLen))).toArray 5 (0,0)))->Below B w0 w'->wpList prog ops Q rest (a.put dst (.int .i64 (dLen:Int))) w') :
  wpList prog ops Q (⟨dst,.call ⟨.builtin .copy,#[d,s],#[22,22]⟩,ty,pos,aft,none⟩ :: rest) a w:=by
 obtain ⟨⟨ao,cap,rfl,hcap,hnil,hsome⟩,hcel,_⟩:=hR;have hlen:(l.take dLen).length=dLen:=by simp;omega
 refine wpList_copy_splice rfl d s 22 22 rfl 5 underlying22 zj5 dp ao dLen dCap l.length cap hd hs g off (za6 cur) 5 hg (za6 (l.take dLen)) ?_ ?_ ?_ (zbK _) B w0 hb hBg ?_
 ·rw [za0,hlen];exact (Nat.min_eq_right hn).symm
 ·intro hp;rw [za0,hlen] at hp;obtain ⟨b,o,rfl⟩:=hsome (by omega);refine ⟨hdp hp,_,rfl,fun j u hj=>?_⟩;obtain ⟨hj1,rfl⟩:=zbL hj;rw [hlen] at hj1;have e:at8 (l.take dLen) j=at8 l j:=by
   unfold at8;simp only [List.getD];rw [List.getElem?_take_of_lt hj1]
  rw [e];exact hcel j (by omega)
 ·rw [za0,za0,hlen];exact hfit
 intro w' hg' hb';rw [zfZ] at hg';have:=h w' hg' hb';rw [za0,hlen];exact this
theorem wpl_append {ops:Array Oper} {Q:Exit->Act->World->Prop} {rest:List Oper} {a:Act} {w:World} {dst:Option Tmp} {ty:TypeId} {pos:String} {aft:Array Edge} {s x:Operand}
  (base:Nat) (sv:Value) (m:Bs) (hs:a.eval s=sv) (ho:Own w base sv m) (xv:Value) (l:Bs) (hx:a.eval x=xv) (hR:Rd w xv l) (hn:m.length + l.length<=140737488355328) (hbase:base<=w.heap.size)
  (B:Nat) (w0:World) (hb:Below B w0 w) (hBb:B<=base)
  (h:∀ v' w',Own w' base v' (m ++ l)->Below B w0 w'->w.grownBy w' sv.ownBlock->wpList prog ops Q rest (a.put dst v') w') :
  wpList prog ops Q (⟨dst,.call ⟨.builtin .append,#[s,x],#[22,22]⟩,ty,pos,aft,none⟩ :: rest) a w:=by
 obtain ⟨i0,hi,hz0,hz1,hz2⟩:=info_parts zgY;obtain ⟨⟨ao,cap,rfl,hcap,hnil,hsome⟩,hcel,_⟩:=hR;cases ao with
 | none =>
  obtain rfl:cap=0:=hnil rfl;obtain rfl:l=[]:=List.eq_nil_of_length_eq_zero (by omega);refine wpList_append_own_none rfl s x 22 rfl base 5 i0 1 underlying22 hi sv m.length (za6 m) hs ho (by simpa using hx) ?_;exact h sv w (by simpa using ho) hb (World.grownBy.refl _ _)
 | some ad =>
  refine wpList_append_own w rfl s x 22 rfl base 5 i0 (.int .u8 0) 1 1 underlying22 hi hz0 hz1 hz2 rfl (by decide) sv m.length (za6 m) hs ho ad l.length cap (za6 l) hx (by simp [za0]) ?_ (zbK l) (by unfold maxLen;omega) (by omega) hbase ?_
  ·intro j u hj;obtain ⟨hj1,rfl⟩:=zbL hj;exact hcel j hj1
  intro v' w' h1 h2 _;refine h v' w' ?_ (hb.grown h2 (by omega) fun k hk=>?_) h2
  ·rw [<- zaG] at h1;unfold Own;rw [List.length_append];exact h1
  exact Nat.le_trans hBb (World.ownsRow.lt ho k hk).1
theorem zt6 (w:World) (c:Int) (h0:0<=c) (h1:c<=255):Rd (w.alloc (.cells #[.int .u8 c] 5)) (.slice (some ⟨w.heap.size,0,none⟩) 1 1) [UInt8.ofNat c.toNat]:=by
 refine ⟨⟨_,1,rfl,Nat.le_refl _,(by intro h;cases h),fun _=>⟨_,_,rfl⟩⟩,fun i hi=>?_,by simp⟩;obtain rfl:i=0:=by simpa using hi
 have e:at8 [UInt8.ofNat c.toNat] 0=c:=by
  simp [at8];omega
 rw [e];simp [adr,Addr.add]
theorem zlG (ao:Option Addr) (n c lo:Nat) (h:lo<=n) (hc:n<=c):∃ dp,(∀ u,(Instr.slice 22 (.slice ao n c) (some (.int .i64 (lo:Int))) none none).run prog u=.ok (.slice dp (n - lo) (c - lo)) u) /\
  (∀ b o,ao=some ⟨b,o,none⟩->lo < c->dp=some ⟨b,o + lo,none⟩)/\(ao=none->dp=none):=by
 refine ⟨if c=lo then ao else ao.map (·.add lo),fun u=>?_,fun b o h1 h2=>?_,fun h1=>?_⟩
 ·rw [run_slice_l (P:=prog) u 22 ao n c underlying22 .i64 lo (by omega) (by omega)];simp [go_sem,Result.andThen,sliced]
 ·subst h1;rw [if_neg (by omega)];simp [Addr.add]
 subst h1;simp
theorem Rd.cut {w:World} {v:Value} {l:Bs} (h:Rd w v l) (lo hi:Nat) (h1:lo<=hi) (h2:hi<=l.length) :
  ∃ v',(∀ u,(Instr.slice 22 v (some (.int .i64 (lo:Int))) (some (.int .i64 (hi:Int))) none).run prog u=.ok v' u)/\∀ w',Rd w' v l->Rd w' v' ((l.take hi).drop lo):=by
 obtain ⟨⟨ao,cap,rfl,hcap,hnil,hsome⟩,hcel,hsm⟩:=h;refine ⟨.slice (if cap=lo then ao else ao.map (·.add lo)) (hi - lo) (cap - lo),fun u=>?_,fun w' h'=>?_⟩
 ·rw [run_slice_lh (P:=prog) u 22 ao l.length cap underlying22 .i64 .i64 lo hi (by omega) (by omega) (by omega)];simp [go_sem,Result.andThen,sliced]
 have hlen:((l.take hi).drop lo).length=hi - lo:=by simp;omega
 have hadr:∀ b o,0 < hi - lo->ao=some ⟨b,o,none⟩->(if cap=lo then ao else ao.map (·.add lo))=some ⟨b,o + lo,none⟩:=by
  intro b o hp he;subst he;rw [if_neg (by omega)];simp [Addr.add]
 refine ⟨⟨_,_,by rw [hlen],by rw [hlen];omega,?_,?_⟩,?_,by rw [hlen];omega⟩
 ·intro hn;by_cases hc:cap=lo
  ·omega
  rw [if_neg hc] at hn;have:ao=none:=by cases ao <;> simp_all
  have:=hnil this;omega
 ·intro hp;rw [hlen] at hp;obtain ⟨b,o,he⟩:=hsome (by omega);exact ⟨b,o + lo,hadr b o hp he⟩
 intro i hi';rw [hlen] at hi';obtain ⟨b,o,he⟩:=hsome (by omega);have hc:=h'.cells (lo + i) (by omega);rw [hadr b o (by omega) he];subst he;have e1:adr (.slice (some ⟨b,o + lo,none⟩) (hi - lo) (cap - lo)) i=adr (.slice (some ⟨b,o,none⟩) l.length cap) (lo + i):=by
  simp only [adr,Addr.add];split <;> split <;> simp_all <;> omega
 rw [e1,hc];congr 2;unfold at8;simp [List.getD];rw [List.getElem?_take_of_lt (by omega)]
theorem Rd.from {w:World} {v:Value} {l:Bs} (h:Rd w v l) (lo:Nat) (h1:lo<=l.length) :
  ∃ v',(∀ u,(Instr.slice 22 v (some (.int .i64 (lo:Int))) none none).run prog u=.ok v' u)/\∀ w',Rd w' v l->Rd w' v' (l.drop lo):=by
 obtain ⟨v',hr,hd⟩:=h.cut lo l.length h1 (Nat.le_refl _);refine ⟨v',fun u=>?_,fun w' h'=>by have:=hd w' h';rwa [List.take_length] at this⟩;obtain ⟨⟨ao,cap,rfl,hcap,hnil,hsome⟩,hcel,hsm⟩:=h
 rw [<- hr u,run_slice_lh (P:=prog) u 22 ao l.length cap underlying22 .i64 .i64 lo l.length (by omega) (by omega) (by omega),
  run_slice_l (P:=prog) u 22 ao l.length cap underlying22 .i64 lo (by omega) (by omega)]
 simp
theorem Rd.upto {w:World} {v:Value} {l:Bs} (h:Rd w v l) (hi:Nat) (h1:hi<=l.length) :
  ∃ v',(∀ u,(Instr.slice 22 v none (some (.int .i64 (hi:Int))) none).run prog u=.ok v' u)/\∀ w',Rd w' v l->Rd w' v' (l.take hi):=by
 obtain ⟨v',hr,hd⟩:=h.cut 0 hi (Nat.zero_le _) h1;refine ⟨v',fun u=>?_,fun w' h'=>by have:=hd w' h';rwa [List.drop_zero] at this⟩;obtain ⟨⟨ao,cap,rfl,hcap,hnil,hsome⟩,hcel,hsm⟩:=h
 rw [<- hr u,run_slice_lh (P:=prog) u 22 ao l.length cap underlying22 .i64 .i64 ((0:Nat):Int) hi (by omega) (by omega) (by omega),
  run_slice_h (P:=prog) u 22 ao l.length cap underlying22 .i64 hi (by omega) (by omega)]
 simp
theorem zCL (w:World) (l:Bs) (hs:l.length<=140737488351232) (z:Nat × Nat):Rd (w.alloc (.cells (za6 l).toArray 5 z)) (.slice (some ⟨w.heap.size,0,none⟩) l.length l.length) l:=by
 refine ⟨⟨_,_,rfl,Nat.le_refl _,(by intro h;cases h),fun _=>⟨_,_,rfl⟩⟩,fun i hi=>?_,hs⟩;have e:adr (.slice (some ⟨w.heap.size,0,none⟩) l.length l.length) i=⟨w.heap.size,i,none⟩:=by
  simp only [adr,Addr.add];split <;> simp_all
 rw [e,cell_of_row _ _ _ _ _ z (heap_alloc_new w _)];rw [List.getElem?_toArray];exact zkI hi
theorem own_empty (w:World) (base:Nat) (hb:base<=w.heap.size):Own (w.alloc (.cells #[] 5)) base (.slice (some ⟨w.heap.size,0,none⟩) 0 0) [] :=
 World.ownsRow_made w #[] 0 hb (Nat.zero_le _) (by simp)
theorem Rd.str {w:World} {v:Value} {l:Bs} (h:Rd w v l):(convert 22 9 v).run prog w=.ok (.string ⟨l.toArray⟩) w:=by
 obtain ⟨⟨ao,cap,rfl,hcap,hnil,hsome⟩,hcel,hsm⟩:=h;by_cases h0:l.length=0
 ·obtain rfl:l=[]:=List.eq_nil_of_length_eq_zero h0;cases ao with
  | none=>exact run_convert_bytes_nil (P:=prog) w 22 5 underlying22 underlying5 0 cap 9 underlying9
  | some a =>
   rw [run_convert_bytes_string w 22 9 5 (some a) _ cap underlying22 underlying5 underlying9];rw [run_bytesToString w a _ cap [] (by simpa using run_loadCells_list (P:=prog) w a [] (by simp))];rfl
 obtain ⟨b,o,rfl⟩:=hsome (by omega);rw [run_convert_bytes_arg (P:=prog) w 22 5 underlying22 underlying5 b o l.length cap (l.map fun c=>(c.toNat:Int)) (by simp) ?_ 9 underlying9]
 ·congr 3;simp [strOfNums];have e:((fun n:Int=>UInt8.ofNat n.toNat) ∘ fun c:UInt8=>(c.toNat:Int))=id:=by funext c;simp
  rw [e,List.map_id]
 intro i hi;have:=hcel i hi;have e:adr (.slice (some ⟨b,o,none⟩) l.length cap) i=⟨b,o + i,none⟩:=by
  simp only [adr,Addr.add];split <;> simp_all
 rw [e] at this;rw [this,zhZ hi];simp [List.getD,hi]
theorem zaT (w:World) (base:Nat):Own w base (.slice none 0 0) []:=World.ownsRow_nil w base _ _
theorem block_setCell {w:World} {g k:Nat} {c:Array Value} {e:TypeId} {z:Nat × Nat} (h:w.heap[g]?=some (.cells c e z)) (u:Value) :
  (w.setCell ⟨g,k,none⟩ u).heap[g]?=some (.cells (c.setIfInBounds k u) e z):=by
 simp [World.setCell,Array.getElem?_modify,h]
theorem za2 {w w':World} {g k:Nat} (h:w.grownBy w' (some g)) (u:Value):w.grownBy (w'.setCell ⟨g,k,none⟩ u) (some g) :=
 ⟨h.os,h.tape,h.output,by simpa using h.size,fun i hi hne=>by
  rw [Below.heap_setCell _ _ _ _ (by intro e;exact hne (by rw [e]))];exact h.block i hi hne⟩
theorem zCK {α:Type} (l m:List α) (u:α) (k:Nat) (hl:l.length=k) (hm:0 < m.length):(l ++ m).toArray.setIfInBounds k u=(l ++ [u] ++ m.drop 1).toArray:=by
 subst hl;cases m with
 | nil=>simp at hm
 | cons b m=>simp
theorem zC0 {w:World} {g k:Nat} {l m:List Value} {e:TypeId} {z:Nat × Nat} (h:w.heap[g]?=some (.cells (l ++ m).toArray e z)) (hk:k < l.length):w.cell? ⟨g,k,none⟩=l[k]?:=by
 rw [cell_of_row w g k _ e z h,List.getElem?_toArray,List.getElem?_append_left hk]
theorem zc5 {w:World} {base g n cap:Nat} {l:Bs} {cur:List Value} (hb:base<=g) (hg:w.heap[g]?=some (.cells cur.toArray 5 (0,0))) (hn:n=l.length) (hc:n<=cap) (hm:cap<=maxLen)
  (hs:cur.length=cap) (ht:cur.take n=za6 l):Own w base (.slice (some ⟨g,0,none⟩) n cap) l:=by
 subst hn;refine ⟨by simp [za0],.inr ⟨g,cap,_,rfl,hb,hg,hc,hm,by simpa using hs,?_⟩⟩;simpa using ht
theorem zeL (n:Int) (h0:0<=n) (h1:n<=281474976710656) (u:World):(Instr.makeSlice 22 (.int .i64 n) (.int .i64 n)).run prog u =
  .ok (.slice (some ⟨u.heap.size,0,none⟩) n.toNat n.toNat) (u.alloc (.cells (za6 (List.replicate n.toNat 0)).toArray 5)):=by
 obtain ⟨i0,hi,hz0,hz1,hz2⟩:=info_parts zgY;have h:=run_make (P:=prog) u 22 5 i0 (.int .u8 0) underlying22 hi hz0 .i64 .i64 n n h0 (Int.le_refl _) (by rw [hz2];omega) (by omega);rw [h,hz1];congr 3;simp [madeCells,za6,zeU,Value.cells];apply Array.ext
 ·simp
 intro i h1 h2;simp [Nat.mod_one]
def RetB (w:World) (l:Bs) (e:Ending) (w':World):Prop:=∃ v,e=.returned v/\Own w' w.heap.size v l/\Below w.heap.size w w'
theorem Own.alloc {w:World} {base:Nat} {v:Value} {l:Bs} (h:Own w base v l) (o:Obj):Own (w.alloc o) base v l:=World.ownsRow.alloc h o
theorem zn4 (w:World) (base:Nat) (hb:base<=w.heap.size) (l:Bs) (hs:l.length<=maxLen):Own (w.alloc (.cells (za6 l).toArray 5 (0,0))) base (.slice (some ⟨w.heap.size,0,none⟩) l.length l.length) l :=
 zc5 hb (heap_alloc_new w _) rfl (Nat.le_refl _) hs (by simp [za0]) (List.take_of_length_le (by simp [za0]))
theorem Own.set {w:World} {base:Nat} {v:Value} {l:Bs} (h:Own w base v l) {i:Nat} (hi:i < l.length) (b:UInt8) :
  Own (w.setCell (adr v i) (zeU b)) base v (l.set i b)/\w.frozen? (adr v i)=false/\base<=(adr v i).block:=by
 obtain ⟨h0,h2⟩:=h;rcases h2 with ⟨rfl,hn⟩ | ⟨g,cap,cur,rfl,hbg,hg,hn,hm,hs,ht⟩
 ·exact absurd hi (by omega)
 have e:adr (.slice (some ⟨g,0,none⟩) l.length cap) i=⟨g,i,none⟩:=by
  simp only [adr,Addr.add];split <;> simp_all
 rw [e];refine ⟨⟨by simp [za0],.inr ⟨g,cap,_,by simp,hbg,block_setCell hg _,by simp;exact hn,hm,by simpa using hs,?_⟩⟩,frozen_of_row _ _ _ _ _ hg,hbg⟩;simp only [List.length_set];rw [Array.toList_setIfInBounds,List.take_set,ht];simp [za6,List.map_set]
theorem Own.drew {w:World} {base:Nat} {v:Value} {l:Bs} (h:Own w base v l):Own w.drew base v l:=h.later ((Below.refl w.heap.size w).drew) (Nat.le_refl _)
end Go.Proofs.YtlapgdocpndfiaaGreatDoor
/- -/
namespace Go.Proofs.YtlapgdocpndfiaaGreatDoor.OrdR
open _root_.Go.Proofs.Tryz
open Go.RowKit
structure Way (R:World->World->Prop):Prop where
 refl:∀ w,R w w
 trans:∀ a b c,R a b->R b c->R a c
structure GW (R:World->World->Prop) (w:World) where
 val:World
 grew:R w val
section
variable {R:World->World->Prop} {P:Program} {ops:Array Oper} {Q:Exit->Act->World->Prop} {md:Region.Mode} {z:Option Nat} {C:Array Bool->Prop}
def zrF:Op->Bool
 | .move _ | .assign _ | .pick .. | .load .. | .binOp .. | .unOp .. | .convert .. | .slice .. | .fieldAddr .. | .field .. | .indexAddr .. | .index .. | .lookup .. | .extract .. | .makeInterface .. | .makeFunc .. | .typeAssert .. | .nilCheck _=>true
 | .call { callee:=.builtin .len,.. } | .call { callee:=.builtin .cap,.. } | .call { callee:=.builtin .min,.. } | .call { callee:=.builtin .max,.. }=>true
 | _=>false
theorem zxX {s:Sem Value} {w w':World} {r:Next} (h:(do pure (Next.value (<- s)):Sem Next).run P w=.ok r w'):∃ u,r=.value u:=by
 simp only [Sem.run_bind] at h;cases hs:s.run P w with
 | ok a w1=>rw [hs] at h;simp only [Result.andThen,Sem.run_pure] at h;exact ⟨a,by injection h with h1 h2;exact h1.symm⟩
 | halt x w1=>rw [hs] at h;simp [Result.andThen] at h
theorem zrE {o:Oper} (h:zrF o.op=true) {ρ:Operand->Value} {w w':World} {r:Next} (hr:(execOp ρ o).run P w=.ok r w'):∃ u,r=.value u:=by
 obtain ⟨dst,op,ty,pos,aft,gd⟩:=o;cases op <;> simp only [zrF] at h <;> try (exact absurd h (by decide))
 case call c =>
  obtain ⟨callee,args,tys⟩:=c;cases callee with
  | value f=>simp at h
  | invoke r m=>simp at h
  | builtin b =>
   cases b <;> simp at h
   all_goals
    rw [BigFrame.execOp_builtin] at hr
    first | rw [BigFrame.builtin_len] at hr | rw [BigFrame.builtin_cap] at hr | rw [BigFrame.builtin_min] at hr | rw [BigFrame.builtin_max] at hr
    exact zxX hr
 case nilCheck x =>
  simp only [execOp] at hr;split at hr
  ·exact absurd hr (by simp [runtimePanic,goPanic])
  ·exact absurd hr (by simp [runtimePanic,goPanic])
  ·exact absurd hr (by simp [runtimePanic,goPanic])
  ·split at hr
   ·exact absurd hr (by simp [runtimePanic,goPanic])
   ·simp only [Sem.run_bind] at hr;cases h1:Sem.run P program w with
    | halt x w1=>rw [h1] at hr;simp [Result.andThen] at hr
    | ok a w1 =>
     rw [h1] at hr;simp only [Result.andThen] at hr;split at hr
     ·rename_i b w2 h2;split at hr
      ·exact absurd hr (by simp [unsupported])
      simp only [Sem.run_pure] at hr;injection hr with h1 h2;exact ⟨_,h1.symm⟩
     exact absurd hr (by simp)
   simp only [Sem.run_pure] at hr;injection hr with h1 h2;exact ⟨_,h1.symm⟩
  simp only [Sem.run_pure] at hr;injection hr with h1 h2;exact ⟨_,h1.symm⟩
 case move x=>simp only [execOp,Sem.run_pure] at hr;injection hr with h1 h2;exact ⟨_,h1.symm⟩
 case assign x=>simp only [execOp,Sem.run_pure] at hr;injection hr with h1 h2;exact ⟨_,h1.symm⟩
 case pick c a b =>
  simp only [execOp,Sem.run_bind] at hr;cases hs:(asBool (ρ c)).run P w with
  | ok a w1=>rw [hs] at hr;simp only [Result.andThen] at hr;split at hr <;> (simp only [Sem.run_pure] at hr;injection hr with h1 h2;exact ⟨_,h1.symm⟩)
  | halt x w1=>rw [hs] at hr;simp [Result.andThen] at hr
 all_goals exact zxX (by simpa only [execOp] using hr)
def zo5 (R:World->World->Prop) (z:Option Nat) (P:Program) (md:Region.Mode) (ops:Array Oper) (Q:Exit->Act->World->Prop):Nat->Array Bool->Act->World->Prop
 | 0,listed,a,w=>Region.ready md ops listed=[]/\Q .normal a w
 | fuel + 1,listed,a,w =>
  (Region.ready md ops listed=[]->Q .normal a w) /\
  ∀ i ∈ Region.ready md ops listed,wpOp P ops Q i (fun a' w'=>(some i≠z->R w w')/\zo5 R z P md ops Q fuel (listed.setIfInBounds i true) a' w') a w
theorem zl9:∀ (fuel:Nat) (listed:Array Bool) (a:Act) (w:World),zo5 R z P md ops Q fuel listed a w->wpAny P md ops Q fuel listed a w
 | 0,_,_,_,h=>h
 | fuel + 1,_,_,_,h=>⟨h.1,fun i hi=>wpOp_mono (fun a' w' h'=>zl9 fuel _ a' w' h'.2) (h.2 i hi)⟩
structure Last (md:Region.Mode) (ops:Array Oper) (z:Option Nat) (C:Array Bool->Prop):Prop where
 set:∀ s j,C s->j ∈ Region.ready md ops s->C (s.setIfInBounds j true)
 alone:∀ s i k,C s->i ∈ Region.ready md ops s->k ∈ Region.ready md ops s->some k=z->i=k
def zb5 (R:World->World->Prop) (P:Program) (ops:Array Oper) (o:Oper) (v:Value) (a:Act) (w:World):Prop :=
 (Region.wanted o (yielded ops a.tmps)=true/\∀ w',R w w'->(execOp a.eval o).run P w'=.ok (.value v) w') ∨
 (Region.wanted o (yielded ops a.tmps)=false/\v=undef)
theorem zb5.later (hR:Way R) {o:Oper} {v:Value} {a:Act} {w w':World} (h:zb5 R P ops o v a w) (hg:R w w'):zb5 R P ops o v a w' :=
 h.imp (fun ⟨h1,h2⟩=>⟨h1,fun w'' h'=>h2 w'' (hR.trans _ _ _ hg h')⟩) id
theorem zb5.wpOp (hR:Way R) {i:Nat} {o:Oper} {v:Value} {a:Act} {w:World} (hi:ops[i]?=some o) (hy:zb5 R P ops o v a w)
  {K:Act->World->Prop} (h:K (a.put o.dst v) w):wpOp P ops Q i K a w:=by
 unfold Go.wpOp;simp only [hi];rcases hy with ⟨hw,hv⟩ | ⟨hw,rfl⟩
 ·simp only [hw,if_true,Oper.wp,hv w (hR.refl w),Oper.upon];exact .inl h
 simp only [hw,Bool.false_eq_true,if_false];exact h
theorem zb5.of_same {o:Oper} {v:Value} {a a':Act} {w:World} (hy:zb5 R P ops o v a w) (he:execOp a'.eval o=execOp a.eval o)
  (hw:Region.wanted o (yielded ops a'.tmps)=Region.wanted o (yielded ops a.tmps)):zb5 R P ops o v a' w:=by
 unfold zb5 at *;rw [he,hw];exact hy
theorem zw4 (hR:Way R) {j:Nat} {oi oj:Oper} {v:Value} (hj:ops[j]?=some oj) (hap:oi.apart ops oj=true)
  (hsi:∀ cs b,oi.op≠.select cs b) (hsj:∀ cs b,oj.op≠.select cs b)
  (hQ:∀ c a w,Q (.panic c) (a.put oi.dst v) w->Q (.panic c) a w) {K:Act->World->Prop} {a:Act} {w:World}
  (hy:zb5 R P ops oi v a w) (h:wpOp P ops Q j (fun a' w'=>R w w'/\K a' w') (a.put oi.dst v) w) :
  wpOp P ops Q j (fun a' w'=>R w w'/\zb5 R P ops oi v a' w'/\K (a'.put oi.dst v) w') a w:=by
 obtain ⟨h1,h2,h3⟩:=Oper.apart_spec hap;have keep:∀ (a:Act) w',R w w'->zb5 R P ops oi v a w->∀ u,zb5 R P ops oi v (a.put oj.dst u) w':=fun a w' hg hy u =>
  (zb5.later hR hy hg).of_same (execOp_put oi hsi a oj.dst u h3) (wanted_put oi a oj.dst u h3)
 have keepD:∀ d,zb5 R P ops oi v { a with defers:=d :: a.defers } w:=fun d=>hy.of_same rfl rfl;unfold wpOp at *;simp only [hj] at *;rw [wanted_put oj a oi.dst v h1] at h;split
 ·rename_i hw;simp only [hw,if_true] at h;rcases h with h | ⟨hasks,hlets⟩
  case inr=>exact .inr ⟨by unfold Oper.asks at *;rw [execOp_put oj hsj a oi.dst v h1] at hasks;exact hasks,hlets⟩
  refine .inl ?_;unfold Oper.wp at *;rw [execOp_put oj hsj a oi.dst v h1] at h;generalize (execOp a.eval oj).run P w=r at *;cases r with
  | ok n w' =>
   cases n <;> simp only [Oper.upon] at h ⊢
   case value u=>exact ⟨h.1,keep a _ h.1 hy u,by rw [<- Act.put_comm a v u h2];exact h.2⟩
   case skip=>exact ⟨h.1,keep a _ h.1 hy _,by rw [<- Act.put_comm a v undef h2];exact h.2⟩
   case defer d =>
    refine ⟨h.1,keep _ _ h.1 (keepD d) _,?_⟩;rw [<- Act.put_comm _ v undef h2,<- Act.put_defers];exact h.2
   case enter f args =>
    refine Calls.mono h fun e w'' he=>?_;cases e with
    | returned u=>exact ⟨he.1,keep a _ he.1 hy u,by rw [<- Act.put_comm a v u h2];exact he.2⟩
    | panicked c=>exact hQ _ _ _ he
    | outgrown=>exact he
   case row row args=>exact Rows.mono h fun u w'' he=>⟨he.1,keep a _ he.1 hy u,by rw [<- Act.put_comm a v u h2];exact he.2⟩
  | halt x w' =>
   cases x <;> simp only [Oper.upon] at h ⊢
   case panic u=>exact hQ _ _ _ h
 rename_i hw;simp only [hw] at h;exact ⟨h.1,keep a _ h.1 hy _,by rw [<- Act.put_comm a v undef h2];exact h.2⟩
theorem zhC (hR:Way R) (hB:Last md ops z C) {i:Nat} {oi:Oper} {v:Value} (hi:ops[i]?=some oi) (hiz:some i≠z) (hsel:∀ (j:Nat) (o:Oper) cs b,ops[j]?=some o->o.op≠.select cs b)
  (hQ:∀ c a w,Q (.panic c) (a.put oi.dst v) w->Q (.panic c) a w) :
  ∀ (fuel:Nat) (listed:Array Bool) (a:Act) (w:World),C listed ->
   (∀ j oj,ops[j]?=some oj->j≠i->listed.getD j true=false->(∀ e ∈ oj.after,Region.binds md e=true->e.on≠i)->oi.apart ops oj=true) ->
   i ∈ Region.ready md ops listed->zb5 R P ops oi v a w ->
   zo5 R z P md ops Q fuel (listed.setIfInBounds i true) (a.put oi.dst v) w->zo5 R z P md ops Q (fuel + 1) listed a w:=by
 intro fuel
 induction fuel with
 | zero =>
  intro listed a w _ _ hr hy H
  refine ⟨fun h=>(by rw [h] at hr;cases hr),fun j hj=>?_⟩
  by_cases hji:j=i
  ·subst hji;exact zb5.wpOp hR hi hy ⟨fun _=>hR.refl _,H⟩
  ·have:=ready_mono hj hji
   rw [H.1] at this
   cases this
 | succ fuel ih =>
  intro listed a w hcl hfree hr hy H
  refine ⟨fun h=>(by rw [h] at hr;cases hr),fun j hj=>?_⟩
  by_cases hji:j=i
  ·subst hji;exact zb5.wpOp hR hi hy ⟨fun _=>hR.refl _,H⟩
  ·have hjz:some j≠z:=fun e=>hji (hB.alone _ _ _ hcl hr hj e).symm
   have h1:=H.2 j (ready_mono hj hji)
   obtain ⟨hjun,oj,hoj,hall⟩:=mem_ready.1 hj
   have hnot:∀ e ∈ oj.after,Region.binds md e=true->e.on≠i:=fun e he hb heq=>by
    have h1:=hall e he hb
    have h0:=(mem_ready.1 hr).1
    rw [heq] at h1
    rcases Nat.lt_or_ge i listed.size with h' | h'
    ·simp [h'] at h0 h1;rw [h0] at h1;cases h1
    ·simp [Array.getElem?_eq_none h'] at h1
   have h2:=zw4 hR hoj (hfree j oj hoj hji hjun hnot) (fun cs b=>hsel i oi cs b hi) (fun cs b=>hsel j oj cs b hoj) hQ hy (wpOp_mono (fun a' w' h'=>⟨h'.1 hjz,h'.2⟩) h1)
   have hfree':∀ k ok,ops[k]?=some ok->k≠i->(listed.setIfInBounds j true).getD k true=false ->
     (∀ e ∈ ok.after,Region.binds md e=true->e.on≠i)->oi.apart ops ok=true:=fun k ok hk hki hun hno=>by
    refine hfree k ok hk hki ?_ hno
    by_cases hjk:j=k
    ·subst hjk;exact hjun
    ·rw [getD_set_ne true hjk] at hun;exact hun
   refine wpOp_mono (fun a' w' h3=>⟨fun _=>h3.1,ih (listed.setIfInBounds j true) a' w' (hB.set _ _ hcl hj) hfree' (ready_mono hr (Ne.symm hji)) h3.2.1 ?_⟩) h2
   rw [Array.setIfInBounds_comm _ _ hji]
   exact h3.2.2
def zdZ (R:World->World->Prop) (z:Option Nat) (P:Program) (ops:Array Oper) (Q:Exit->Act->World->Prop):List (Nat × Bool)->Act->World->Prop
 | [],a,w=>Q .normal a w
 | (i,loud) :: rest,a,w =>
  match ops[i]? with
  | none=>False
  | some o =>
   if Region.wanted o (yielded ops a.tmps) then
    if loud then o.wp P a w (fun a' w'=>(some i≠z->R w w')/\zdZ R z P ops Q rest a' w') Q
    else some i≠z/\∃ v,(∀ w',R w w'->(execOp a.eval o).run P w'=.ok (.value v) w')/\zdZ R z P ops Q rest (a.put o.dst v) w
   else some i≠z/\zdZ R z P ops Q rest (a.put o.dst undef) w
def ordB (md:Region.Mode) (ops:Array Oper):List (Nat × Bool)->Array Bool->Bool
 | [],listed=>(Region.ready md ops listed).isEmpty
 | (i,loud) :: rest,listed =>
  (if loud then Region.ready md ops listed == [i] else (Region.ready md ops listed).contains i && Region.free md ops listed i) && ordB md ops rest (listed.setIfInBounds i true)
theorem zd3 (hR:Way R) (hL:Last md ops z C) (hs:Region.noSelect ops=true) (hQ:∀ c a w d v,Q (.panic c) (Act.put a d v) w->Q (.panic c) a w):∀ (l:List (Nat × Bool)) (listed:Array Bool) (a:Act) (w:World),C listed ->
  ordB md ops l listed=true->zdZ R z P ops Q l a w->zo5 R z P md ops Q l.length listed a w
 | [],listed,a,w,_,hB,h=>⟨by simpa [ordB] using hB,h⟩
 | (i,loud) :: l,listed,a,w,hC,hB,h=>by
  simp only [ordB,Bool.and_eq_true] at hB
  obtain ⟨h1,h2⟩:=hB
  simp only [zdZ] at h
  cases ho:ops[i]? with
  | none=>simp only [ho] at h
  | some o =>
   simp only [ho] at h
   cases loud with
   | true =>
    simp only [if_true,beq_iff_eq] at h1
    have hi:i ∈ Region.ready md ops listed:=by rw [h1];exact List.mem_singleton.2 rfl
    refine ⟨fun h0=>(by rw [h1] at h0;cases h0),fun j hj=>?_⟩
    rw [h1] at hj
    obtain rfl:j=i:=by simpa using hj
    unfold wpOp
    simp only [ho]
    split
    ·rename_i hw
     simp only [hw,if_true] at h
     exact .inl (Oper.wp_mono (fun a' w' h'=>⟨h'.1,zd3 hR hL hs hQ l _ a' w' (hL.set _ _ hC hi) h2 h'.2⟩) h)
    ·rename_i hw
     simp only [hw,Bool.false_eq_true,if_false] at h
     exact ⟨fun _=>hR.refl _,zd3 hR hL hs hQ l _ _ w (hL.set _ _ hC hi) h2 h.2⟩
   | false =>
    simp only [Bool.false_eq_true,if_false,Bool.and_eq_true] at h1 h
    have hi:i ∈ Region.ready md ops listed:=by simpa using h1.1
    by_cases hw:Region.wanted o (yielded ops a.tmps)=true
    ·simp only [hw,if_true] at h
     obtain ⟨hz,v,hv,hk⟩:=h
     exact zhC hR hL ho hz (Region.noSelect_spec hs) (fun c a w=>hQ c a w o.dst v) l.length listed a w hC (Region.free_spec ho h1.2) hi (.inl ⟨hw,hv⟩) (zd3 hR hL hs hQ l _ _ w (hL.set _ _ hC hi) h2 hk)
    ·simp only [hw,Bool.false_eq_true,if_false] at h
     exact zhC hR hL ho h.1 (Region.noSelect_spec hs) (fun c a w=>hQ c a w o.dst undef) l.length listed a w hC (Region.free_spec ho h1.2) hi (.inr ⟨by simpa using hw,rfl⟩) (zd3 hR hL hs hQ l _ _ w (hL.set _ _ hC hi) h2 h.2)
theorem zo4 (hR:Way R) {id:Nat} {l:List Oper} {a:Act} {w:World} (ord:List (Nat × Bool)) (hL:Last .any l.toArray z C) (hC:C (Array.replicate l.toArray.size false)) (hm:P.follows .mixedOrders=true) (hlen:ord.length=l.length) (hs:Region.noSelect l.toArray=true)
  (hB:ordB .any l.toArray ord (Array.replicate l.toArray.size false)=true) (hQ:∀ c a w d v,Q (.panic c) (Act.put a d v) w->Q (.panic c) a w)
  (h:zdZ R z P l.toArray Q ord a w.drew):(Code.region id l.toArray true).wp P Q a w:=by
 refine wp_region_any hm (zl9 (R:=R) (z:=z) _ _ _ _ ?_);have:=zd3 (md:=.any) hR hL hs hQ ord _ a w.drew hC hB h;rw [hlen] at this;simpa using this
theorem wp_region_ord (hR:Way R) {id:Nat} {l:List Oper} {a:Act} {w:World} (ord:List (Nat × Bool)) (hm:P.follows .mixedOrders=true) (hlen:ord.length=l.length) (hs:Region.noSelect l.toArray=true)
  (hB:ordB .any l.toArray ord (Array.replicate l.toArray.size false)=true) (hQ:∀ c a w d v,Q (.panic c) (Act.put a d v) w->Q (.panic c) a w)
  (h:zdZ R none P l.toArray Q ord a w.drew):(Code.region id l.toArray true).wp P Q a w :=
 zo4 (C:=fun _=>True) hR ord ⟨fun _ _ _ _=>trivial,fun _ _ _ _ _ _ h=>by cases h⟩ trivial hm hlen hs hB hQ h
theorem ord_still {i:Nat} {rest:List (Nat × Bool)} {a:Act} {w:World} {o:Oper} {l:List Oper} (hl:l[i]?=some o) (hp:zrF o.op=true) (hg:Region.wanted o (yielded l.toArray a.tmps)=true)
  (h:∀ K:Act->Prop,(∀ a,zdZ R z P l.toArray Q rest a w->K a)->o.quiet P a (fun w'=>∃ x:GW R w,w'=x.val) K) (hz:some i≠z:=by decide):zdZ R z P l.toArray Q ((i,false) :: rest) a w:=by
 have ho:l.toArray[i]?=some o:=by simpa using hl
 simp only [zdZ,ho,hg,if_true,Bool.false_eq_true,if_false];obtain ⟨v,h1,h2⟩:=h _ (fun _ h=>h);refine ⟨hz,v,fun w' hw'=>?_,h2⟩;have h3:=h1 w' ⟨⟨w',hw'⟩,rfl⟩;unfold Oper.quietAt at h3;cases hr:(execOp a.eval o).run P w' with
 | halt x w1=>rw [hr] at h3;exact h3.elim
 | ok r w1 =>
  obtain ⟨u,rfl⟩:=zrE hp hr;rw [hr] at h3;obtain ⟨rfl,rfl⟩:=h3;rfl
theorem ord_loud {i:Nat} {rest:List (Nat × Bool)} {a:Act} {w:World} {o:Oper} {l:List Oper} (hl:l[i]?=some o) (hg:Region.wanted o (yielded l.toArray a.tmps)=true)
  (h:∀ K:Act->World->Prop,(∀ a' w',R w w'->zdZ R z P l.toArray Q rest a' w'->K a' w')->o.wp P a w K Q):zdZ R z P l.toArray Q ((i,true) :: rest) a w:=by
 have ho:l.toArray[i]?=some o:=by simpa using hl
 simp only [zdZ,ho,hg,if_true];exact h _ (fun _ _ h1 h2=>⟨fun _=>h1,h2⟩)
theorem ord_skip (hR:Way R) {i:Nat} {loud:Bool} {rest:List (Nat × Bool)} {a:Act} {w:World} {dst:Option Tmp} {op:Op} {ty:TypeId} {pos:String} {aft:Array Edge} {gd:Option (Nat × Bool)} {l:List Oper}
  (hl:l[i]?=some ⟨dst,op,ty,pos,aft,gd⟩) (hg:Region.wanted ⟨dst,op,ty,pos,aft,gd⟩ (yielded l.toArray a.tmps)=false)
  (h:∀ K:Act->Prop,(∀ a,zdZ R z P l.toArray Q rest a w->K a)->Oper.quiet P ⟨dst,.move (.const undef),ty,pos,aft,none⟩ a (fun w'=>∃ x:GW R w,w'=x.val) K) (hz:some i≠z:=by decide):zdZ R z P l.toArray Q ((i,loud) :: rest) a w:=by
 have ho:l.toArray[i]?=some ⟨dst,op,ty,pos,aft,gd⟩:=by simpa using hl
 simp only [zdZ,ho,hg,Bool.false_eq_true,if_false];obtain ⟨v,h1,h2⟩:=h _ (fun _ h=>h);have h3:=h1 w ⟨⟨w,hR.refl w⟩,rfl⟩;unfold Oper.quietAt at h3;rw [BigFrame.run_move (.const undef) rfl] at h3;obtain ⟨_,rfl⟩:=h3;exact ⟨hz,h2⟩
theorem ord_nil {a:Act} {w:World} (h:Q .normal a w):zdZ R z P ops Q [] a w:=h
attribute [irreducible] zdZ
end
end Go.Proofs.YtlapgdocpndfiaaGreatDoor.OrdR
/- -/
namespace Go.Proofs.YtlapgdocpndfiaaGreatDoor.Ord
open _root_.Go.Proofs.Tryz
open Go.RowKit
def Grew (w w':World):Prop:=Below w.heap.size w w'
theorem Grew.refl (w:World):Grew w w:=Below.refl _ _
theorem Grew.trans {a b c:World} (h:Grew a b) (k:Grew b c):Grew a c:=Below.trans h (Below.mono k h.size)
theorem way:OrdR.Way Grew:=⟨Grew.refl,fun _ _ _ h k=>h.trans k⟩
abbrev GW (w:World):=OrdR.GW Grew w
instance (w:World):Nonempty (GW w):=⟨⟨w,Grew.refl w⟩⟩
end Go.Proofs.YtlapgdocpndfiaaGreatDoor.Ord
/- -/
namespace Go.Proofs.YtlapgdocpndfiaaGreatDoor
open _root_.Go.Proofs.Tryz
open Go.RowKit
theorem Rd.grew {w w':World} {v:Value} {l:Bs} (h:Rd w v l) (hg:Ord.Grew w w'):Rd w' v l:=h.later hg l_
theorem Rd.str_later {w:World} {v:Value} {l:Bs} (h:Rd w v l):∀ x:Ord.GW w,(convert 22 9 v).run prog x.val=.ok (.string ⟨l.toArray⟩) x.val:=fun x=>(h.grew x.grew).str
theorem str_later {w:World} {base:Nat} {v:Value} {l:Bs} (h:Own w base v l) (hs:l.length<=140737488351232):∀ x:Ord.GW w,(convert 22 9 v).run prog x.val=.ok (.string ⟨l.toArray⟩) x.val:=(h.rd hs).str_later
/- -/
open Go.ChangeShapes Go.WideShapes Go.ChangeAt
theorem own:ownKnob prog.godebug=none:=by kernel_rfl
theorem laidOut:laidOutB prog=true:=by kernel_rfl
theorem zFZ {x:Int} (h:(Lit.int .u8 x).wf=true):0<=x/\x<=255:=by
 simpa [Lit.wf,IntKind.min,IntKind.max,IntKind.signed,IntKind.bits] using h
theorem cells_u8:prog.cellsOf 5=1:=by kernel_rfl
theorem zC2:prog.bytesOf 5=1:=by kernel_rfl
section
variable {H:Type} {enc:TypeId × Value->H} {W:World}
theorem zDG {base:Nat} {v:Value} {d:DataW H} {ps:List MemPlace} {ts:List TypeId} {ds:List (DataW H)} {j:Nat} (hval:Value.okWide prog W .any base 22 v)
  (h:DataW.Trod enc prog W 0 (fun _=>true) true 22 v d ps) (hz:(DataW.weightsEach prog ts ds).all (·<=reachBytes)=true) (ht:ts[j]?=some 22) (hd:ds[j]?=some d):∃ l,Rd W v l:=by
 obtain ⟨a0,len,cap,rfl⟩:=okWide_slice underlying22 hval;obtain ⟨fuel,hf⟩:=h;rcases open_ints underlying22 underlying5 cells_u8 hf with ⟨hcs,_⟩ | ⟨x,l,c,zs,hcs,_,hl,hm,hzl,hx,hcell,hwz⟩
 ·simp [Value.cells] at hcs;obtain ⟨rfl,rfl,rfl⟩:=hcs;exact ⟨[],Rd.nil W⟩
 simp [Value.cells] at hcs;obtain ⟨rfl,rfl,rfl⟩:=hcs;simp only [Prod.mk.injEq] at hx;obtain ⟨rfl,_⟩:=hx;simp only [if_true] at hzl;have hs:=sized_slice hz ht hd underlying22;rw [zC2] at hs;simp only [lits,List.length_map,List.length_take,List.length_drop,reachBytes] at hs;have hbnd:∀ n ∈ zs,0<=n/\n<=255:=fun n hn=>zFZ (hwz n hn);refine ⟨(zs.take len).map fun n=>UInt8.ofNat n.toNat,⟨some x,cap,?_,?_,(by intro h;cases h),?_⟩,?_,?_⟩
 ·simp;omega
 ·simp;omega
 ·intro hp;simp at hp;have h0:=hcell 0 (by omega);obtain ⟨b,o,sp⟩:=x;cases sp with
  | none=>exact ⟨b,o,rfl⟩
  | some s =>
   exfalso;simp only [Addr.add,if_true,World.cell?] at h0;split at h0 <;> simp at h0
 ·intro i hi;simp at hi;have h0:=hcell i (by omega);have e:at8 ((zs.take len).map fun n=>UInt8.ofNat n.toNat) i=zs.getD i 0:=by
   have hz':=hbnd (zs[i]'(by omega)) (List.getElem_mem _);rw [zhZ (by simp;omega)];simp [List.getD,show i < zs.length by omega];omega
  rw [e];exact h0
 simp;omega
end
/- -/
section
variable {H:Type} {enc:TypeId × Value->H} {W:World}
end
/- -/
def zbP:Nat->Nat->Bs->Option Nat
 | 0,c,_=>some c
 | _ + 1,_,[]=>none
 | n + 1,c,b :: r=>if b.toNat / 64=2 then zbP n (64 * c + b.toNat % 64) r else none
def runeOK (least v:Nat):Bool:=!(decide (v < least) || decide (1114111 < v) || (decide (55296<=v) && decide (v < 57344)))
def zbR (c:Nat):Option (Nat × Nat × Nat) :=
 if 194<=c/\c < 224 then some (1,c % 32,128)
 else if 224<=c/\c < 240 then some (2,c % 16,2048)
 else if 240<=c/\c < 245 then some (3,c % 8,65536)
 else none
def utf8:Bs->Bool
 | []=>true
 | c :: r =>
  if c.toNat < 128 then utf8 r
  else match zbR c.toNat with
   | none=>false
   | some (n,m,least)=>match zbP n m r with
    | none=>false
    | some v=>runeOK least v && utf8 (r.drop n)
 termination_by l=>l.length
 decreasing_by all_goals (simp;try omega)
theorem ziB:utf8 []=true:=by rw [utf8]
theorem zsL {c:UInt8} {r:Bs} (h:c.toNat < 128):utf8 (c :: r)=utf8 r:=by rw [utf8,if_pos h]
theorem ziY {c:UInt8} {r:Bs} (h:¬ c.toNat < 128) (hl:zbR c.toNat=none):utf8 (c :: r)=false:=by rw [utf8,if_neg h,hl]
theorem zd4 {c : UInt8} {r : Bs} {n m least : Nat} (h : ¬ c.toNat < 128) (hl : zbR c.toNat = some (n, m, least)) : utf8 (c :: r) = (match zbP n m r with
        | none => false
        | some v => runeOK least v && utf8 (r.drop n)) := by rw [utf8, if_neg h, hl]
theorem zcH {l:Bs} {i:Nat} (h:i < l.length):l.drop i=l.getD i 0 :: l.drop (i + 1):=by
 rw [List.drop_eq_getElem_cons h];simp [List.getD,h]
theorem zgN {n c i:Nat} {l:Bs} (h:i < l.length):zbP (n + 1) c (l.drop i)=if (l.getD i 0).toNat / 64=2 then zbP n (64 * c + (l.getD i 0).toNat % 64) (l.drop (i + 1)) else none:=by
 rw [zcH h,zbP]
theorem ziZ {n c i:Nat} {l:Bs} (h:l.length<=i):zbP (n + 1) c (l.drop i)=none:=by
 rw [List.drop_eq_nil_of_le h,zbP]
structure RdS (s:ByteArray) (l:Bs):Prop where
 eq:s=⟨l.toArray⟩
 small:l.length<=140737488351232
theorem RdS.len {s:ByteArray} {l:Bs} (h:RdS s l):∀ u,(Builtin.len_ #[9] 3 #[.string s]).run prog u=.ok (.int .i64 (l.length:Int)) u:=by
 intro u;have e:=run_len_string (P:=prog) (w:=u) 9 3 (⟨l.toArray⟩:ByteArray) underlying9;have hs:(⟨l.toArray⟩:ByteArray).size=l.length:=by simp [ByteArray.size]
 rw [hs] at e;rw [h.eq];exact e
theorem RdS.idx {s:ByteArray} {l:Bs} (h:RdS s l) (i:Nat) (hi:i < l.length):∀ u,(Instr.index 9 (.string s) (.int .i64 (i:Int))).run prog u=.ok (.int .u8 (at8 l i)) u:=by
 intro u;rw [h.eq];have hs:(⟨l.toArray⟩:ByteArray).size=l.length:=by simp [ByteArray.size]
 rw [run_index_string (P:=prog) u 9 ⟨l.toArray⟩ .i64 i underlying9,dif_pos ⟨by omega,by rw [hs];omega⟩,zhZ hi];rfl
theorem ziF (s : ByteArray) (l : Bs) (w : World) (h : RdS s l) :
    Calls prog 203 #[.string s] w fun e w' => e = .returned (.bool (utf8 l)) /\ w = w' := by
 have hlen:=h.len;have hidx:=h.idx;have hsm:=h.small;go_enter func203,ntmps203;go_wp2;go_loop [3] (fun i=>∃ k:Nat,k<=l.length/\i=.int .i64 k/\Hid (utf8 l=utf8 (l.drop k))) (fun i=>l.length - (intOf i).toNat)
 case atStart=>exact ⟨0,by omega,rfl,Lib.hid (by rw [List.drop_zero])⟩
 obtain ⟨k,hk,rfl,HK⟩:=hrel;by_cases hlt:k < l.length
 ·obtain ⟨c,hc⟩:∃ c:Nat,at8 l k=(c:Int):=⟨(l.getD k 0).toNat,rfl⟩;have hc1:=zcZ l k;have hcc:(l.getD k 0).toNat=c:=by unfold at8 at hc;omega
  have HC:=Lib.hid hcc;have hx:=hidx k hlt;rw [hc] at hc1;clear hcc;by_cases h1:c < 128
  ·go_wp2;go_round
   case rel=>exact ⟨k + 1,by omega,by go_num,Lib.hid (by rw [HK.o,zcH hlt,zsL (by rw [HC.o];exact h1)])⟩
   simp [intOf];omega
  by_cases h2:194<=c/\c < 224
  ·obtain ⟨h2a,h2b⟩:=h2;have hd1:decide ((c:Int) ≥ 194)=true:=decide_eq_true (by omega);have hd2:decide ((c:Int) < 224)=true:=decide_eq_true (by omega);have hl:zbR c=some (1,c % 32,128):=by unfold zbR;rw [if_pos (by omega)]
   have HK2 := Lib.hid (show utf8 l = (match zbP 1 (c % 32) (l.drop (k + 1)) with
           | none => false
           | some v => runeOK 128 v && utf8 ((l.drop (k + 1)).drop 1)) by rw [HK.o, zcH hlt]; exact zd4 (by rw [HC.o]; omega) (by rw [HC.o]; exact hl))
   have hm:(c:Int) % 32=((c % 32:Nat):Int):=(by omega);have hmlt:c % 32 < 32:=(by omega);obtain ⟨m,hmm⟩:=nm_ (c % 32);rw [<- hmm] at hm hmlt HK2;clear hl hmm HK;go_wp2;go_loop [4,7] (fun cc qq=>∃ q cv:Nat,1<=q/\q<=2/\k + q<=l.length/\qq=.int .i64 q/\cc=.int .i64 cv/\Hid ((q=1/\cv<=31)∨(q=2/\cv<=2047)∨(q=3/\cv<=131071)∨(q=4/\cv<=8388607))/\Hid (zbP 1 m (l.drop (k + 1))=zbP (2 - q) cv (l.drop (k + q)))) (fun _ qq=>2 - (intOf qq).toNat)
   case atStart=>exact ⟨1,m,by omega,by omega,by omega,rfl,rfl,Lib.hid (.inl ⟨rfl,by omega⟩),Lib.hid rfl⟩
   obtain ⟨q,cv,hq1,hq2,hq3,rfl,rfl,HBD,HV⟩:=hrel;have hcv:cv<=8388607:=(by have:=HBD.o;omega);by_cases hqn:q<=1
   ·by_cases hlq:k + q < l.length
    ·have hx2:=hidx (k + q) hlq;rw [show ((k + q:Nat):Int)=(k:Int) + (q:Int) from by omega] at hx2;obtain ⟨d,hd⟩:∃ d:Nat,at8 l (k + q)=(d:Int):=⟨(l.getD (k + q) 0).toNat,rfl⟩;have hd2:(l.getD (k + q) 0).toNat=d:=(by unfold at8 at hd;omega);have hd3:=zcZ l (k + q);rw [hd] at hx2 hd3;have hnx:=zgN (n:=1 - q) (c:=cv) hlq;rw [hd2] at hnx;have HN:=Lib.hid hnx;clear hd hd2 hnx;have hge:¬ (k:Int) + (q:Int) ≥ (l.length:Int):=(by omega);by_cases h2:d / 64=2
     ·have h2':(((d:Int) / 64) != 2)=false:=(by simp;omega);have h2'':((d:Int) / 64)=2:=(by omega);obtain ⟨r,hr⟩:=nm_ (d % 64);have hdm:(d:Int) % 64=(r:Int):=(by omega);have hr64:r < 64:=(by omega);have HRR:=Lib.hid hr;clear hr;go_wp2;go_round
      case rel=>exact ⟨q + 1,64 * cv + r,by omega,by omega,by omega,by go_num,by go_num,Lib.hid (by have:=HBD.o;omega),Lib.hid (by rw [HV.o,show 2 - q=(1 - q) + 1 from by omega,HN.o,if_pos h2,<- HRR.o,show 2 - (q + 1)=1 - q from by omega,Nat.add_assoc])⟩
      simp [intOf];omega
     have h2':(((d:Int) / 64) != 2)=true:=(by simp;omega);have hf:utf8 l=false:=(by rw [HK2.o,HV.o,show 2 - q=(1 - q) + 1 from by omega,HN.o,if_neg h2]);have HF:=Lib.hid hf;clear hf;go_wp2;go_ret;refine ⟨?_,rfl⟩;rw [HF.o];rfl
    have hge:(k:Int) + (q:Int) ≥ (l.length:Int):=(by omega);have hf:utf8 l=false:=(by rw [HK2.o,HV.o,show 2 - q=(1 - q) + 1 from by omega,ziZ (by omega)]);have HF:=Lib.hid hf;clear hf;go_wp2;go_ret;refine ⟨?_,rfl⟩;rw [HF.o];rfl
   obtain rfl:q=2:=(by omega);have hv:zbP 1 m (l.drop (k + 1))=some cv:=(by rw [HV.o];rfl);have hu:utf8 l=(runeOK 128 cv && utf8 (l.drop (k + 2))):=(by rw [HK2.o,hv,List.drop_drop]);have HU:=Lib.hid hu;clear hv hu;by_cases ho:runeOK 128 cv=true
   ·have HO:=Lib.hid ho;have ho2:=ho;simp only [runeOK,Bool.not_eq_true',Bool.or_eq_false_iff,Bool.and_eq_false_iff,decide_eq_false_iff_not] at ho2;obtain ⟨⟨o1,o2⟩,o3⟩:=ho2;clear ho;have e1:decide ((cv:Int) < 128)=false:=decide_eq_false (by omega);have e2:decide ((cv:Int) > 1114111)=false:=decide_eq_false (by omega);by_cases o4:55296<=cv
    ·have o5:¬ cv < 57344:=(by omega);have e3:decide ((cv:Int) ≥ 55296)=true:=decide_eq_true (by omega);have e4:decide ((cv:Int) < 57344)=false:=decide_eq_false (by omega);go_wp2;go_round
     case rel=>exact ⟨k + 2,by omega,by go_num,Lib.hid (by rw [HU.o,HO.o];rfl)⟩
     simp [intOf];omega
    have e3:decide ((cv:Int) ≥ 55296)=false:=decide_eq_false (by omega);go_wp2;go_round
    case rel=>exact ⟨k + 2,by omega,by go_num,Lib.hid (by rw [HU.o,HO.o];rfl)⟩
    simp [intOf];omega
   have hf:utf8 l=false:=(by rw [HU.o,Bool.eq_false_iff.2 ho];rfl);have HF:=Lib.hid hf;clear hf;by_cases o1:cv < 128
   ·have e1:decide ((cv:Int) < 128)=true:=decide_eq_true (by omega);go_wp2;go_ret;refine ⟨?_,rfl⟩;rw [HF.o];rfl
   have e1:decide ((cv:Int) < 128)=false:=decide_eq_false (by omega);by_cases o2:1114111 < cv
   ·have e2:decide ((cv:Int) > 1114111)=true:=decide_eq_true (by omega);go_wp2;go_ret;refine ⟨?_,rfl⟩;rw [HF.o];rfl
   have o3:55296<=cv/\cv < 57344:=by
    refine Decidable.of_not_not fun o3=>ho ?_;simp only [runeOK,Bool.not_eq_true',Bool.or_eq_false_iff,Bool.and_eq_false_iff,decide_eq_false_iff_not];omega
   obtain ⟨o4,o5⟩:=o3;have e2:decide ((cv:Int) > 1114111)=false:=decide_eq_false (by omega);have e3:decide ((cv:Int) ≥ 55296)=true:=decide_eq_true (by omega);have e4:decide ((cv:Int) < 57344)=true:=decide_eq_true (by omega);go_wp2;go_ret;refine ⟨?_,rfl⟩;rw [HF.o];rfl
  have hd1:(decide ((c:Int) ≥ 194) && decide ((c:Int) < 224))=false:=by simp;omega
  by_cases h3:224<=c/\c < 240
  ·obtain ⟨h3a,h3b⟩:=h3;have hd3:decide ((c:Int) ≥ 194)=true:=decide_eq_true (by omega);have hd4:decide ((c:Int) < 224)=false:=decide_eq_false (by omega);have hd5:decide ((c:Int) ≥ 224)=true:=decide_eq_true (by omega);have hd6:decide ((c:Int) < 240)=true:=decide_eq_true (by omega);have hl:zbR c=some (2,c % 16,2048):=by unfold zbR;rw [if_neg (by omega),if_pos (by omega)]
   have HK2 := Lib.hid (show utf8 l = (match zbP 2 (c % 16) (l.drop (k + 1)) with
           | none => false
           | some v => runeOK 2048 v && utf8 ((l.drop (k + 1)).drop 2)) by rw [HK.o, zcH hlt]; exact zd4 (by rw [HC.o]; omega) (by rw [HC.o]; exact hl))
   have hm:(c:Int) % 16=((c % 16:Nat):Int):=(by omega);have hmlt:c % 16 < 32:=(by omega);obtain ⟨m,hmm⟩:=nm_ (c % 16);rw [<- hmm] at hm hmlt HK2;clear hl hmm HK;go_wp2;go_loop [4,7] (fun cc qq=>∃ q cv:Nat,1<=q/\q<=3/\k + q<=l.length/\qq=.int .i64 q/\cc=.int .i64 cv/\Hid ((q=1/\cv<=31)∨(q=2/\cv<=2047)∨(q=3/\cv<=131071)∨(q=4/\cv<=8388607))/\Hid (zbP 2 m (l.drop (k + 1))=zbP (3 - q) cv (l.drop (k + q)))) (fun _ qq=>3 - (intOf qq).toNat)
   case atStart=>exact ⟨1,m,by omega,by omega,by omega,rfl,rfl,Lib.hid (.inl ⟨rfl,by omega⟩),Lib.hid rfl⟩
   obtain ⟨q,cv,hq1,hq2,hq3,rfl,rfl,HBD,HV⟩:=hrel;have hcv:cv<=8388607:=(by have:=HBD.o;omega);by_cases hqn:q<=2
   ·by_cases hlq:k + q < l.length
    ·have hx2:=hidx (k + q) hlq;rw [show ((k + q:Nat):Int)=(k:Int) + (q:Int) from by omega] at hx2;obtain ⟨d,hd⟩:∃ d:Nat,at8 l (k + q)=(d:Int):=⟨(l.getD (k + q) 0).toNat,rfl⟩;have hd2:(l.getD (k + q) 0).toNat=d:=(by unfold at8 at hd;omega);have hd3:=zcZ l (k + q);rw [hd] at hx2 hd3;have hnx:=zgN (n:=2 - q) (c:=cv) hlq;rw [hd2] at hnx;have HN:=Lib.hid hnx;clear hd hd2 hnx;have hge:¬ (k:Int) + (q:Int) ≥ (l.length:Int):=(by omega);by_cases h2:d / 64=2
     ·have h2':(((d:Int) / 64) != 2)=false:=(by simp;omega);have h2'':((d:Int) / 64)=2:=(by omega);obtain ⟨r,hr⟩:=nm_ (d % 64);have hdm:(d:Int) % 64=(r:Int):=(by omega);have hr64:r < 64:=(by omega);have HRR:=Lib.hid hr;clear hr;go_wp2;go_round
      case rel=>exact ⟨q + 1,64 * cv + r,by omega,by omega,by omega,by go_num,by go_num,Lib.hid (by have:=HBD.o;omega),Lib.hid (by rw [HV.o,show 3 - q=(2 - q) + 1 from by omega,HN.o,if_pos h2,<- HRR.o,show 3 - (q + 1)=2 - q from by omega,Nat.add_assoc])⟩
      simp [intOf];omega
     have h2':(((d:Int) / 64) != 2)=true:=(by simp;omega);have hf:utf8 l=false:=(by rw [HK2.o,HV.o,show 3 - q=(2 - q) + 1 from by omega,HN.o,if_neg h2]);have HF:=Lib.hid hf;clear hf;go_wp2;go_ret;refine ⟨?_,rfl⟩;rw [HF.o];rfl
    have hge:(k:Int) + (q:Int) ≥ (l.length:Int):=(by omega);have hf:utf8 l=false:=(by rw [HK2.o,HV.o,show 3 - q=(2 - q) + 1 from by omega,ziZ (by omega)]);have HF:=Lib.hid hf;clear hf;go_wp2;go_ret;refine ⟨?_,rfl⟩;rw [HF.o];rfl
   obtain rfl:q=3:=(by omega);have hv:zbP 2 m (l.drop (k + 1))=some cv:=(by rw [HV.o];rfl);have hu:utf8 l=(runeOK 2048 cv && utf8 (l.drop (k + 3))):=(by rw [HK2.o,hv,List.drop_drop]);have HU:=Lib.hid hu;clear hv hu;by_cases ho:runeOK 2048 cv=true
   ·have HO:=Lib.hid ho;have ho2:=ho;simp only [runeOK,Bool.not_eq_true',Bool.or_eq_false_iff,Bool.and_eq_false_iff,decide_eq_false_iff_not] at ho2;obtain ⟨⟨o1,o2⟩,o3⟩:=ho2;clear ho;have e1:decide ((cv:Int) < 2048)=false:=decide_eq_false (by omega);have e2:decide ((cv:Int) > 1114111)=false:=decide_eq_false (by omega);by_cases o4:55296<=cv
    ·have o5:¬ cv < 57344:=(by omega);have e3:decide ((cv:Int) ≥ 55296)=true:=decide_eq_true (by omega);have e4:decide ((cv:Int) < 57344)=false:=decide_eq_false (by omega);go_wp2;go_round
     case rel=>exact ⟨k + 3,by omega,by go_num,Lib.hid (by rw [HU.o,HO.o];rfl)⟩
     simp [intOf];omega
    have e3:decide ((cv:Int) ≥ 55296)=false:=decide_eq_false (by omega);go_wp2;go_round
    case rel=>exact ⟨k + 3,by omega,by go_num,Lib.hid (by rw [HU.o,HO.o];rfl)⟩
    simp [intOf];omega
   have hf:utf8 l=false:=(by rw [HU.o,Bool.eq_false_iff.2 ho];rfl);have HF:=Lib.hid hf;clear hf;by_cases o1:cv < 2048
   ·have e1:decide ((cv:Int) < 2048)=true:=decide_eq_true (by omega);go_wp2;go_ret;refine ⟨?_,rfl⟩;rw [HF.o];rfl
   have e1:decide ((cv:Int) < 2048)=false:=decide_eq_false (by omega);by_cases o2:1114111 < cv
   ·have e2:decide ((cv:Int) > 1114111)=true:=decide_eq_true (by omega);go_wp2;go_ret;refine ⟨?_,rfl⟩;rw [HF.o];rfl
   have o3:55296<=cv/\cv < 57344:=by
    refine Decidable.of_not_not fun o3=>ho ?_;simp only [runeOK,Bool.not_eq_true',Bool.or_eq_false_iff,Bool.and_eq_false_iff,decide_eq_false_iff_not];omega
   obtain ⟨o4,o5⟩:=o3;have e2:decide ((cv:Int) > 1114111)=false:=decide_eq_false (by omega);have e3:decide ((cv:Int) ≥ 55296)=true:=decide_eq_true (by omega);have e4:decide ((cv:Int) < 57344)=true:=decide_eq_true (by omega);go_wp2;go_ret;refine ⟨?_,rfl⟩;rw [HF.o];rfl
  by_cases h4:240<=c/\c < 245
  ·obtain ⟨h4a,h4b⟩:=h4;have hd3:decide ((c:Int) ≥ 194)=true:=decide_eq_true (by omega);have hd4:decide ((c:Int) < 224)=false:=decide_eq_false (by omega);have hd5:decide ((c:Int) ≥ 224)=true:=decide_eq_true (by omega);have hd6:decide ((c:Int) < 240)=false:=decide_eq_false (by omega);have hd7:decide ((c:Int) ≥ 240)=true:=decide_eq_true (by omega);have hd8:decide ((c:Int) < 245)=true:=decide_eq_true (by omega);have hl:zbR c=some (3,c % 8,65536):=by unfold zbR;rw [if_neg (by omega),if_neg (by omega),if_pos (by omega)]
   have HK2 := Lib.hid (show utf8 l = (match zbP 3 (c % 8) (l.drop (k + 1)) with
           | none => false
           | some v => runeOK 65536 v && utf8 ((l.drop (k + 1)).drop 3)) by rw [HK.o, zcH hlt]; exact zd4 (by rw [HC.o]; omega) (by rw [HC.o]; exact hl))
   have hm:(c:Int) % 8=((c % 8:Nat):Int):=(by omega);have hmlt:c % 8 < 32:=(by omega);obtain ⟨m,hmm⟩:=nm_ (c % 8);rw [<- hmm] at hm hmlt HK2;clear hl hmm HK;go_wp2;go_loop [4,7] (fun cc qq=>∃ q cv:Nat,1<=q/\q<=4/\k + q<=l.length/\qq=.int .i64 q/\cc=.int .i64 cv/\Hid ((q=1/\cv<=31)∨(q=2/\cv<=2047)∨(q=3/\cv<=131071)∨(q=4/\cv<=8388607))/\Hid (zbP 3 m (l.drop (k + 1))=zbP (4 - q) cv (l.drop (k + q)))) (fun _ qq=>4 - (intOf qq).toNat)
   case atStart=>exact ⟨1,m,by omega,by omega,by omega,rfl,rfl,Lib.hid (.inl ⟨rfl,by omega⟩),Lib.hid rfl⟩
   obtain ⟨q,cv,hq1,hq2,hq3,rfl,rfl,HBD,HV⟩:=hrel;have hcv:cv<=8388607:=(by have:=HBD.o;omega);by_cases hqn:q<=3
   ·by_cases hlq:k + q < l.length
    ·have hx2:=hidx (k + q) hlq;rw [show ((k + q:Nat):Int)=(k:Int) + (q:Int) from by omega] at hx2;obtain ⟨d,hd⟩:∃ d:Nat,at8 l (k + q)=(d:Int):=⟨(l.getD (k + q) 0).toNat,rfl⟩;have hd2:(l.getD (k + q) 0).toNat=d:=(by unfold at8 at hd;omega);have hd3:=zcZ l (k + q);rw [hd] at hx2 hd3;have hnx:=zgN (n:=3 - q) (c:=cv) hlq;rw [hd2] at hnx;have HN:=Lib.hid hnx;clear hd hd2 hnx;have hge:¬ (k:Int) + (q:Int) ≥ (l.length:Int):=(by omega);by_cases h2:d / 64=2
     ·have h2':(((d:Int) / 64) != 2)=false:=(by simp;omega);have h2'':((d:Int) / 64)=2:=(by omega);obtain ⟨r,hr⟩:=nm_ (d % 64);have hdm:(d:Int) % 64=(r:Int):=(by omega);have hr64:r < 64:=(by omega);have HRR:=Lib.hid hr;clear hr;go_wp2;go_round
      case rel=>exact ⟨q + 1,64 * cv + r,by omega,by omega,by omega,by go_num,by go_num,Lib.hid (by have:=HBD.o;omega),Lib.hid (by rw [HV.o,show 4 - q=(3 - q) + 1 from by omega,HN.o,if_pos h2,<- HRR.o,show 4 - (q + 1)=3 - q from by omega,Nat.add_assoc])⟩
      simp [intOf];omega
     have h2':(((d:Int) / 64) != 2)=true:=(by simp;omega);have hf:utf8 l=false:=(by rw [HK2.o,HV.o,show 4 - q=(3 - q) + 1 from by omega,HN.o,if_neg h2]);have HF:=Lib.hid hf;clear hf;go_wp2;go_ret;refine ⟨?_,rfl⟩;rw [HF.o];rfl
    have hge:(k:Int) + (q:Int) ≥ (l.length:Int):=(by omega);have hf:utf8 l=false:=(by rw [HK2.o,HV.o,show 4 - q=(3 - q) + 1 from by omega,ziZ (by omega)]);have HF:=Lib.hid hf;clear hf;go_wp2;go_ret;refine ⟨?_,rfl⟩;rw [HF.o];rfl
   obtain rfl:q=4:=(by omega);have hv:zbP 3 m (l.drop (k + 1))=some cv:=(by rw [HV.o];rfl);have hu:utf8 l=(runeOK 65536 cv && utf8 (l.drop (k + 4))):=(by rw [HK2.o,hv,List.drop_drop]);have HU:=Lib.hid hu;clear hv hu;by_cases ho:runeOK 65536 cv=true
   ·have HO:=Lib.hid ho;have ho2:=ho;simp only [runeOK,Bool.not_eq_true',Bool.or_eq_false_iff,Bool.and_eq_false_iff,decide_eq_false_iff_not] at ho2;obtain ⟨⟨o1,o2⟩,o3⟩:=ho2;clear ho;have e1:decide ((cv:Int) < 65536)=false:=decide_eq_false (by omega);have e2:decide ((cv:Int) > 1114111)=false:=decide_eq_false (by omega);by_cases o4:55296<=cv
    ·have o5:¬ cv < 57344:=(by omega);have e3:decide ((cv:Int) ≥ 55296)=true:=decide_eq_true (by omega);have e4:decide ((cv:Int) < 57344)=false:=decide_eq_false (by omega);go_wp2;go_round
     case rel=>exact ⟨k + 4,by omega,by go_num,Lib.hid (by rw [HU.o,HO.o];rfl)⟩
     simp [intOf];omega
    have e3:decide ((cv:Int) ≥ 55296)=false:=decide_eq_false (by omega);go_wp2;go_round
    case rel=>exact ⟨k + 4,by omega,by go_num,Lib.hid (by rw [HU.o,HO.o];rfl)⟩
    simp [intOf];omega
   have hf:utf8 l=false:=(by rw [HU.o,Bool.eq_false_iff.2 ho];rfl);have HF:=Lib.hid hf;clear hf;by_cases o1:cv < 65536
   ·have e1:decide ((cv:Int) < 65536)=true:=decide_eq_true (by omega);go_wp2;go_ret;refine ⟨?_,rfl⟩;rw [HF.o];rfl
   have e1:decide ((cv:Int) < 65536)=false:=decide_eq_false (by omega);by_cases o2:1114111 < cv
   ·have e2:decide ((cv:Int) > 1114111)=true:=decide_eq_true (by omega);go_wp2;go_ret;refine ⟨?_,rfl⟩;rw [HF.o];rfl
   have o3:55296<=cv/\cv < 57344:=by
    refine Decidable.of_not_not fun o3=>ho ?_;simp only [runeOK,Bool.not_eq_true',Bool.or_eq_false_iff,Bool.and_eq_false_iff,decide_eq_false_iff_not];omega
   obtain ⟨o4,o5⟩:=o3;have e2:decide ((cv:Int) > 1114111)=false:=decide_eq_false (by omega);have e3:decide ((cv:Int) ≥ 55296)=true:=decide_eq_true (by omega);have e4:decide ((cv:Int) < 57344)=true:=decide_eq_true (by omega);go_wp2;go_ret;refine ⟨?_,rfl⟩;rw [HF.o];rfl
  have hl:zbR c=none:=by unfold zbR;rw [if_neg h2,if_neg h3,if_neg h4]
  have HF:=Lib.hid (show utf8 l=false by rw [HK.o,zcH hlt];exact ziY (by rw [HC.o];omega) (by rw [HC.o];exact hl));clear hl;by_cases h5:c < 194
  ·have hd3:decide ((c:Int) ≥ 194)=false:=decide_eq_false (by omega);have hd5:decide ((c:Int) ≥ 224)=false:=decide_eq_false (by omega);have hd7:decide ((c:Int) ≥ 240)=false:=decide_eq_false (by omega);go_wp2;go_ret;refine ⟨?_,rfl⟩;rw [HF.o];rfl
  have hd3:decide ((c:Int) ≥ 194)=true:=decide_eq_true (by omega);have hd4:decide ((c:Int) < 224)=false:=decide_eq_false (by omega);have hd5:decide ((c:Int) ≥ 224)=true:=decide_eq_true (by omega);have hd6:decide ((c:Int) < 240)=false:=decide_eq_false (by omega);have hd7:decide ((c:Int) ≥ 240)=true:=decide_eq_true (by omega);have hd8:decide ((c:Int) < 245)=false:=decide_eq_false (by omega);go_wp2;go_ret;refine ⟨?_,rfl⟩;rw [HF.o];rfl
 obtain rfl:k=l.length:=by omega
 have HF:=Lib.hid (show utf8 l=true by rw [HK.o,List.drop_length,ziB]);go_wp2;go_ret;refine ⟨?_,rfl⟩;rw [HF.o];rfl
/- -/
def cellV (num:Nat) (s:ByteArray):Value:=.agg #[.int .u64 (num:Int),.string s]
theorem RdS.toList {s:ByteArray} {l:Bs} (h:RdS s l):s.toList=l:=by
 rw [h.eq,Lib.toList_data]
def checkC (kind:Int) (num:Nat) (l:Bs):Nat :=
 if kind < 0∨5 < kind then 10
 else if ((kind=3∨kind=4)/\num≠0)∨(¬ (kind=3∨kind=4)/\l≠[])∨(kind=2/\1 < num)∨(kind=4/\utf8 l=false) then 11
 else if 256 < l.length then 7 else 0
theorem zjA (kind:Int) (num:Nat) (s:ByteArray) (l:Bs) (w:World) (h:RdS s l) (hk:-9223372036854775808<=kind/\kind<=9223372036854775807) (hn:num < 18446744073709551616) :
  Calls prog 150 #[.int .i64 kind,cellV num s] w fun e w'=>e=.returned (.int .i64 (checkC kind num l:Nat))/\Below w.heap.size w w':=by
 have hlen:=h.len;have hne:=h_ h.toList;unfold cellV;by_cases h0:kind < 0
 ·have hd1:decide (kind < 0)=true:=decide_eq_true h0;rw [show checkC _ num l=10 from by unfold checkC;rw [if_pos (.inl h0)]];go_enter func150,ntmps150;go_wp2;go_ret;exact ⟨rfl,(Below.refl _ _).alloc l_ _⟩
 have hd1:decide (kind < 0)=false:=decide_eq_false h0;by_cases h5:5 < kind
 ·have hd2:decide (kind > 5)=true:=decide_eq_true h5;rw [show checkC _ num l=10 from by unfold checkC;rw [if_pos (.inr h5)]];go_enter func150,ntmps150;go_wp2;go_ret;exact ⟨rfl,(Below.refl _ _).alloc l_ _⟩
 clear hd1;obtain rfl | rfl | rfl | rfl | rfl | rfl:kind=0∨kind=1∨kind=2∨kind=3∨kind=4∨kind=5:=by omega
 ·by_cases hl:l=[]
  ·have hdl:s.toList.isEmpty=true:=(by rw [hne.o,hl];rfl);have hlz:¬ (l.length:Int) > 256:=(by rw [hl];decide);rw [show checkC _ num l=0 from by unfold checkC;rw [if_neg (by omega),if_neg (by simp [hl]),if_neg (by simp [hl])]];go_enter func150,ntmps150;go_wp2;go_ret;exact ⟨rfl,(Below.refl _ _).alloc l_ _⟩
  have hdl:s.toList.isEmpty=false:=by rw [hne.o];cases l <;> simp_all
  rw [show checkC _ num l=11 from by unfold checkC;rw [if_neg (by omega),if_pos (.inr (.inl ⟨by omega,hl⟩))]];go_enter func150,ntmps150;go_wp2;go_ret;exact ⟨rfl,(Below.refl _ _).alloc l_ _⟩
 ·by_cases hl:l=[]
  ·have hdl:s.toList.isEmpty=true:=(by rw [hne.o,hl];rfl);have hlz:¬ (l.length:Int) > 256:=(by rw [hl];decide);rw [show checkC _ num l=0 from by unfold checkC;rw [if_neg (by omega),if_neg (by simp [hl]),if_neg (by simp [hl])]];go_enter func150,ntmps150;go_wp2;go_ret;exact ⟨rfl,(Below.refl _ _).alloc l_ _⟩
  have hdl:s.toList.isEmpty=false:=by rw [hne.o];cases l <;> simp_all
  rw [show checkC _ num l=11 from by unfold checkC;rw [if_neg (by omega),if_pos (.inr (.inl ⟨by omega,hl⟩))]];go_enter func150,ntmps150;go_wp2;go_ret;exact ⟨rfl,(Below.refl _ _).alloc l_ _⟩
 ·by_cases hl:l=[]
  ·by_cases hb:1 < num
   ·have hdl:s.toList.isEmpty=true:=(by rw [hne.o,hl];rfl);have hlz:¬ (l.length:Int) > 256:=(by rw [hl];decide);have hb2:decide ((num:Int) > 1)=true:=decide_eq_true (by omega);rw [show checkC _ num l=11 from by unfold checkC;rw [if_neg (by omega),if_pos (.inr (.inr (.inl ⟨rfl,hb⟩)))]];go_enter func150,ntmps150;go_wp2;go_ret;exact ⟨rfl,(Below.refl _ _).alloc l_ _⟩
   have hdl:s.toList.isEmpty=true:=(by rw [hne.o,hl];rfl);have hlz:¬ (l.length:Int) > 256:=(by rw [hl];decide);have hb2:decide ((num:Int) > 1)=false:=decide_eq_false (by omega);rw [show checkC _ num l=0 from by unfold checkC;rw [if_neg (by omega),if_neg (by simp [hl];omega),if_neg (by simp [hl])]];go_enter func150,ntmps150;go_wp2;go_ret;exact ⟨rfl,(Below.refl _ _).alloc l_ _⟩
  have hdl:s.toList.isEmpty=false:=by rw [hne.o];cases l <;> simp_all
  rw [show checkC _ num l=11 from by unfold checkC;rw [if_neg (by omega),if_pos (.inr (.inl ⟨by omega,hl⟩))]];go_enter func150,ntmps150;go_wp2;go_ret;exact ⟨rfl,(Below.refl _ _).alloc l_ _⟩
 ·by_cases hz:num=0
  ·by_cases hg:256 < l.length
   ·have hnz:((num:Int) != 0)=false:=(by simp;omega);have hgg:(l.length:Int) > 256:=(by omega);rw [show checkC _ num l=7 from by unfold checkC;rw [if_neg (by omega),if_neg (by simp [hz]),if_pos hg]];go_enter func150,ntmps150;go_wp2;go_ret;exact ⟨rfl,(Below.refl _ _).alloc l_ _⟩
   have hnz:((num:Int) != 0)=false:=(by simp;omega);have hgg:¬ (l.length:Int) > 256:=(by omega);rw [show checkC _ num l=0 from by unfold checkC;rw [if_neg (by omega),if_neg (by simp [hz]),if_neg hg]];go_enter func150,ntmps150;go_wp2;go_ret;exact ⟨rfl,(Below.refl _ _).alloc l_ _⟩
  have hnz:((num:Int) != 0)=true:=by simp;omega
  rw [show checkC _ num l=11 from by unfold checkC;rw [if_neg (by omega),if_pos (.inl ⟨.inl rfl,hz⟩)]];go_enter func150,ntmps150;go_wp2;go_ret;exact ⟨rfl,(Below.refl _ _).alloc l_ _⟩
 ·by_cases hz:num=0
  ·cases hu:utf8 l with
   | false =>
    have hnz:((num:Int) != 0)=false:=(by simp;omega);rw [show checkC _ num l=11 from by unfold checkC;rw [if_neg (by omega),if_pos (.inr (.inr (.inr ⟨rfl,hu⟩)))]];go_enter func150,ntmps150;go_wp2_with fail;refine (ziF _ _ _ h).mono ?_;rintro e w1 ⟨rfl,rfl⟩;rw [hu];go_wp2;go_ret;exact ⟨rfl,(Below.refl _ _).alloc l_ _⟩
   | true =>
    by_cases hg:256 < l.length
    ·have hnz:((num:Int) != 0)=false:=(by simp;omega);have hgg:(l.length:Int) > 256:=(by omega);rw [show checkC _ num l=7 from by unfold checkC;rw [if_neg (by omega),if_neg (by simp [hz,hu]),if_pos hg]];go_enter func150,ntmps150;go_wp2_with fail;refine (ziF _ _ _ h).mono ?_;rintro e w1 ⟨rfl,rfl⟩;rw [hu];go_wp2;go_ret;exact ⟨rfl,(Below.refl _ _).alloc l_ _⟩
    have hnz:((num:Int) != 0)=false:=(by simp;omega);have hgg:¬ (l.length:Int) > 256:=(by omega);rw [show checkC _ num l=0 from by unfold checkC;rw [if_neg (by omega),if_neg (by simp [hz,hu]),if_neg hg]];go_enter func150,ntmps150;go_wp2_with fail;refine (ziF _ _ _ h).mono ?_;rintro e w1 ⟨rfl,rfl⟩;rw [hu];go_wp2;go_ret;exact ⟨rfl,(Below.refl _ _).alloc l_ _⟩
  have hnz:((num:Int) != 0)=true:=by simp;omega
  rw [show checkC _ num l=11 from by unfold checkC;rw [if_neg (by omega),if_pos (.inl ⟨.inr rfl,hz⟩)]];go_enter func150,ntmps150;go_wp2;go_ret;exact ⟨rfl,(Below.refl _ _).alloc l_ _⟩
 by_cases hl:l=[]
 ·have hdl:s.toList.isEmpty=true:=by rw [hne.o,hl];rfl
  have hlz:¬ (l.length:Int) > 256:=by rw [hl];decide
  rw [show checkC _ num l=0 from by unfold checkC;rw [if_neg (by omega),if_neg (by simp [hl]),if_neg (by simp [hl])]];go_enter func150,ntmps150;go_wp2;go_ret;exact ⟨rfl,(Below.refl _ _).alloc l_ _⟩
 have hdl:s.toList.isEmpty=false:=by rw [hne.o];cases l <;> simp_all
 rw [show checkC _ num l=11 from by unfold checkC;rw [if_neg (by omega),if_pos (.inr (.inl ⟨by omega,hl⟩))]];go_enter func150,ntmps150;go_wp2;go_ret;exact ⟨rfl,(Below.refl _ _).alloc l_ _⟩
/- -/
structure Kept (lo g:Nat) (w w':World):Prop where
 size:w.heap.size<=w'.heap.size
 block:∀ j,lo<=j->j < w.heap.size->j≠g->w'.heap[j]?=w.heap[j]?
theorem Kept.trans {lo g:Nat} {a b c:World} (h:Kept lo g a b) (k:Kept lo g b c):Kept lo g a c :=
 ⟨Nat.le_trans h.size k.size,fun j h1 h2 h3=>(k.block j h1 (Nat.lt_of_lt_of_le h2 h.size) h3).trans (h.block j h1 h2 h3)⟩
theorem Kept.setCell {lo g:Nat} {a b:World} (h:Kept lo g a b) {p:Addr} (hp:p.block < lo) (u:Value):Kept lo g a (b.setCell p u) :=
 h.trans ⟨by simp [World.setCell],fun j h1 _ _=>Below.heap_setCell _ _ _ _ (by omega)⟩
structure Only (S:Nat->Prop) (w w':World):Prop where
 os:w'.os=w.os
 tape:w'.tape=w.tape
 output:w'.output=w.output
 size:w.heap.size<=w'.heap.size
 block:∀ j,j < w.heap.size->¬ S j->w'.heap[j]?=w.heap[j]?
theorem Only.refl (S:Nat->Prop) (w:World):Only S w w:=⟨rfl,rfl,rfl,Nat.le_refl _,fun _ _ _=>rfl⟩
theorem Only.trans {S:Nat->Prop} {a b c:World} (h:Only S a b) (k:Only S b c):Only S a c :=
 ⟨k.os.trans h.os,k.tape.trans h.tape,k.output.trans h.output,Nat.le_trans h.size k.size,fun j h1 h2=>(k.block j (Nat.lt_of_lt_of_le h1 h.size) h2).trans (h.block j h1 h2)⟩
theorem Only.mono {S T:Nat->Prop} {a b:World} (h:Only S a b) (hT:∀ j,S j->T j):Only T a b :=
 ⟨h.os,h.tape,h.output,h.size,fun j h1 h2=>h.block j h1 (fun hs=>h2 (hT j hs))⟩
theorem Only.grown {S:Nat->Prop} {a b c:World} {g:Nat} (h:Only S a b) (k:b.grownBy c (some g)) (hg:S g):Only S a c :=
 h.trans ⟨k.os,k.tape,k.output,k.size,fun j h1 h2=>k.block j h1 (fun e=>h2 (by injection e with e;rw [e];exact hg))⟩
theorem Only.below {S:Nat->Prop} {a b c:World} {B:Nat} (h:Only S a b) (k:Below B b c) (hB:b.heap.size<=B):Only S a c :=
 h.trans ⟨k.os,k.tape,k.output,k.size,fun j h1 _=>k.block j (Nat.lt_of_lt_of_le h1 hB)⟩
theorem Only.setCell {S:Nat->Prop} {a b:World} (h:Only S a b) {p:Addr} (hp:S p.block) (u:Value):Only S a (b.setCell p u) :=
 h.trans ⟨rfl,rfl,rfl,by simp [World.setCell],fun j _ h2=>Below.heap_setCell _ _ _ _ (fun e=>h2 (by rw [e];exact hp))⟩
theorem Only.alloc {S:Nat->Prop} {a b:World} (h:Only S a b) (o:Obj):Only S a (b.alloc o) :=
 h.trans ⟨rfl,rfl,rfl,by simp,fun j h1 _=>Below.heap_alloc _ _ _ h1⟩
theorem Only.drew {S:Nat->Prop} {a b:World} (h:Only S a b):Only S a b.drew:=⟨h.os,h.tape,h.output,h.size,h.block⟩
theorem Only.toBelow {S:Nat->Prop} {a b:World} (h:Only S a b) {B:Nat} (hB:∀ j,S j->B<=j) (hs:B<=a.heap.size):Below B a b :=
 ⟨h.os,h.tape,h.output,h.size,fun j h1=>h.block j (by omega) (fun hj=>by have:=hB j hj;omega)⟩
theorem Only.kept {S:Nat->Prop} {a b:World} (h:Only S a b) {lo g:Nat} (hS:∀ j,S j->j < lo∨j=g):Kept lo g a b :=
 ⟨h.size,fun j h1 h2 h3=>h.block j h2 (fun hj=>by have:=hS j hj;omega)⟩
theorem Only.keep {S:Nat->Prop} {a b:World} (h:Only S a b) {j:Nat} {o:Obj} (hj:a.heap[j]?=some o) (hn:¬ S j):b.heap[j]?=some o :=
 (h.block j (Array.getElem?_eq_some_iff.1 hj).1 hn).trans hj
theorem new2 (w:World) (x y:Obj):((w.alloc x).alloc y).heap.size=w.heap.size + 2/\((w.alloc x).alloc y).heap[w.heap.size]?=some x/\((w.alloc x).alloc y).heap[w.heap.size + 1]?=some y/\Below w.heap.size w ((w.alloc x).alloc y):=by
 refine ⟨by simp,?_,?_,((Below.refl _ w).alloc (Nat.le_refl _) _).alloc (by simp) _⟩
 ·rw [Below.heap_alloc _ _ _ (by simp)];exact heap_alloc_new _ _
 have:=heap_alloc_new (w.alloc x) y;simpa using this
theorem new3 (w:World) (x y z:Obj):(((w.alloc x).alloc y).alloc z).heap.size=w.heap.size + 3/\(((w.alloc x).alloc y).alloc z).heap[w.heap.size]?=some x/\(((w.alloc x).alloc y).alloc z).heap[w.heap.size + 1]?=some y /\
  (((w.alloc x).alloc y).alloc z).heap[w.heap.size + 2]?=some z/\Below w.heap.size w (((w.alloc x).alloc y).alloc z):=by
 obtain ⟨h0,h1,h2,h3⟩:=new2 w x y;refine ⟨by simp,?_,?_,?_,h3.alloc (by omega) _⟩
 ·rw [Below.heap_alloc _ _ _ (by omega)];exact h1
 ·rw [Below.heap_alloc _ _ _ (by omega)];exact h2
 rw [<- h0];exact heap_alloc_new _ _
theorem news (os:List Obj):∀ (w:World),(os.foldl World.alloc w).heap.size=w.heap.size + os.length/\(∀ i o,os[i]?=some o->(os.foldl World.alloc w).heap[w.heap.size + i]?=some o)/\Below w.heap.size w (os.foldl World.alloc w):=by
 induction os with
 | nil=>exact fun w=>⟨rfl,fun i o h=>by simp at h,Below.refl _ _⟩
 | cons a r ih =>
  intro w;obtain ⟨h1,h2,h3⟩:=ih (w.alloc a);have hs:(w.alloc a).heap.size=w.heap.size + 1:=by simp
  rw [hs] at h1 h2 h3;refine ⟨by simp only [List.foldl_cons,List.length_cons];omega,fun i o h=>?_,((Below.refl _ w).alloc (Nat.le_refl _) a).trans (h3.mono (by omega))⟩;cases i with
  | zero =>
   simp only [List.getElem?_cons_zero,Option.some.injEq] at h;subst h;exact (h3.block _ (by omega)).trans (heap_alloc_new _ _)
  | succ i =>
   simp only [List.getElem?_cons_succ] at h;have:=h2 i o h;rw [show w.heap.size + 1 + i=w.heap.size + (i + 1) from by omega] at this;exact this
/- -/
structure Elt where
 S:TypeId
 T:TypeId
 n:Nat
 bytes:Nat
 zero:Value
structure Elt.Ok (E:Elt):Prop where
 hS:prog.underlying E.S=some (.slice E.T)
 hel:prog.elem E.S=E.T
 info:(prog.info? E.T).map (fun i=>(i.zero,i.size,i.bytes))=some (some E.zero,E.n,E.bytes)
 hz:E.zero.cells.size=E.n
 hn:0 < E.n
theorem zaK (b o:Nat) (n c k:Nat):adr (.slice (some ⟨b,o,none⟩) n c) k=⟨b,o + k,none⟩:=by simp only [adr,Addr.add];split <;> simp_all
structure RdG (E:Elt) (w:World) (v:Value) (vs:List (List Value)):Prop where
 shape:∃ ao cap,v=.slice ao vs.length cap/\vs.length<=cap/\(ao=none->cap=0)/\(0 < vs.length->∃ b o,ao=some ⟨b,o,none⟩)
 cells:∀ i,i < vs.length->∀ j u,(vs.getD i [])[j]?=some u->w.cell? (adr v (i * E.n + j))=some u
 wid:∀ x ∈ vs,x.length=E.n
 small:vs.length<=140737488351232
section
variable {E:Elt} {w w':World} {v:Value} {vs:List (List Value)}
theorem RdG.get (h:RdG E w v vs) {i:Nat} (hi:i < vs.length):(vs.getD i []).length=E.n:=by
 have e:vs.getD i []=vs[i]:=by simp [List.getD,hi]
 rw [e];exact h.wid _ (List.getElem_mem _)
theorem RdG.block (h:RdG E w v vs) (hE:E.Ok) {i:Nat} (hi:i < vs.length):(adr v (i * E.n)).block < w.heap.size:=by
 have hl:=h.get hi;have hn:=hE.hn;have h0:(vs.getD i [])[0]?=some ((vs.getD i [])[0]'(by omega)):=List.getElem?_eq_getElem _;have:=h.cells i hi 0 _ h0;rw [Nat.add_zero] at this;exact World.block_lt_of_cell? w _ this
theorem RdG.blk (h:RdG E w v vs) {i:Nat} (hi:i < vs.length) (j k:Nat):(adr v j).block=(adr v k).block:=by
 obtain ⟨ao,cap,rfl,_,_,hp⟩:=h.shape;obtain ⟨b,o,rfl⟩:=hp (by omega);rw [zaK,zaK]
theorem RdG.same (h:RdG E w v vs) (hs:∀ i,i < vs.length->w'.heap[(adr v (i * E.n)).block]?=w.heap[(adr v (i * E.n)).block]?):RdG E w' v vs :=
 ⟨h.shape,fun i hi j u hu=>(World.cell?_of_block (by rw [h.blk hi (i * E.n + j) (i * E.n)];exact hs i hi)).trans (h.cells i hi j u hu),h.wid,h.small⟩
theorem RdG.later (h:RdG E w v vs) (hE:E.Ok) {B:Nat} (hb:Below B w w') (hB:w.heap.size<=B):RdG E w' v vs :=
 h.same fun i hi=>hb.block _ (Nat.lt_of_lt_of_le (h.block hE hi) hB)
theorem RdG.nil (E:Elt) (w:World):RdG E w (.slice none 0 0) [] :=
 ⟨⟨none,0,rfl,l_,fun _=>rfl,fun h=>absurd h (by simp)⟩,fun i hi=>absurd hi (by simp),fun x hx=>absurd hx (by simp),by simp⟩
theorem RdG.len (h:RdG E w v vs) (hE:E.Ok):∀ u,(Builtin.len_ #[E.S] 3 #[v]).run prog u=.ok (.int .i64 (vs.length:Int)) u:=by
 intro u;obtain ⟨⟨ao,cap,rfl,_⟩,_,_,_⟩:=h;exact run_len_slice u _ _ ao _ _ (by rw [hE.hel];exact hE.hS)
theorem RdG.idx (h:RdG E w v vs) (hE:E.Ok) (i:Nat) (hi:i < vs.length) :
  ∀ u,(Instr.indexAt E.S v (.int .i64 (i:Int))).run prog u=.ok (.pointer (some (adr v (i * E.n)))) u:=by
 intro u;obtain ⟨⟨ao,cap,rfl,_,_,hp⟩,_,_,_⟩:=h;obtain ⟨b,o,rfl⟩:=hp (by omega);have:=run_indexAt_slice (P:=prog) u E.S ⟨b,o,none⟩ vs.length cap .i64 i (by rw [hE.hel];exact hE.hS);rw [this,if_pos ⟨by omega,by omega⟩];obtain ⟨inf,hi1,hi2⟩:=Option.map_eq_some_iff.1 hE.info;have hsz:inf.size=E.n:=by
  have:=congrArg (fun x=>x.2.1) hi2;exact this
 have hi1':prog.info? (prog.elem E.S)=some inf:=by rw [hE.hel];exact hi1
 simp [sizeOf,typeInfo,hi1',hsz,Result.andThen,adr]
theorem RdG.at (h:RdG E w v vs) {i:Nat} (hi:i < vs.length):∃ b o,adr v (i * E.n)=⟨b,o,none⟩/\∀ j u,(vs.getD i [])[j]?=some u->w.cell? ⟨b,o + j,none⟩=some u:=by
 obtain ⟨ao,cap,rfl,_,_,hp⟩:=id h.shape;obtain ⟨b,o,rfl⟩:=hp (by omega);refine ⟨b,o + i * E.n,zaK _ _ _ _ _,fun j u hu=>?_⟩;have:=h.cells i hi j u hu;rw [zaK,<- Nat.add_assoc] at this;exact this
def OwnG (E:Elt) (w:World) (base:Nat) (v:Value) (vs:List (List Value)):Prop :=
 w.ownsRow base E.T E.n v vs.length vs.flatten/\(∀ x ∈ vs,x.length=E.n)/\∀ x ∈ vs,∀ u ∈ x,u.oneCell'=true
theorem zh0 {n:Nat}:∀ (vs:List (List Value)),(∀ x ∈ vs,x.length=n)->∀ i j u,i < vs.length->(vs.getD i [])[j]?=some u->vs.flatten[i * n + j]?=some u
 | [],_,i,j,u,hi,_=>absurd hi (by simp)
 | x :: r,hw,0,j,u,_,h=>by
  have hx:=hw x (by simp)
  have hj:j < x.length:=by
   have:((x :: r).getD 0 [])=x:=rfl
   rw [this] at h
   exact (List.getElem?_eq_some_iff.1 h).1
  rw [Nat.zero_mul,Nat.zero_add,List.flatten_cons,List.getElem?_append_left hj]
  exact h
 | x :: r,hw,i + 1,j,u,hi,h=>by
  have hx:=hw x (by simp)
  have ih:=zh0 r (fun y hy=>hw y (by simp [hy])) i j u (by simp at hi;omega) h
  rw [List.flatten_cons,List.getElem?_append_right (by rw [hx,Nat.add_mul];omega),hx,show (i + 1) * n + j - n=i * n + j from by rw [Nat.add_mul];omega]
  exact ih
theorem OwnG.rd {base:Nat} (h:OwnG E w base v vs) (hs:vs.length<=140737488351232):RdG E w v vs:=by
 obtain ⟨h1,hw,_⟩:=h;have hc:=fun g=>World.ownsRow.cells (g:=g) h1;obtain ⟨_,h2⟩:=h1;rcases h2 with ⟨rfl,hn⟩ | ⟨g,cap,cur,rfl,_,hg,hn,hm,_⟩
 ·have:vs=[]:=List.eq_nil_of_length_eq_zero hn;subst this;exact RdG.nil E w
 refine ⟨⟨_,cap,rfl,hn,(by intro h;cases h),fun _=>⟨g,0,rfl⟩⟩,fun i hi j u hu=>?_,hw,hs⟩;exact hc g rfl (i * E.n + j) u (zh0 vs hw i j u hi hu)
theorem OwnG.later {base B:Nat} (h:OwnG E w base v vs) (hb:Below B w w') (hB:w.heap.size<=B):OwnG E w' base v vs:=by
 refine ⟨⟨h.1.1,?_⟩,h.2⟩;rcases h.1.2 with h2 | ⟨g,cap,cur,rfl,hbg,hg,r⟩
 ·exact .inl h2
 refine .inr ⟨g,cap,cur,rfl,hbg,?_,r⟩;rw [hb.block g (Nat.lt_of_lt_of_le (Array.getElem?_eq_some_iff.1 hg).1 hB)];exact hg
theorem OwnG.grown {base:Nat} (h:OwnG E w base v vs) {r:Option Nat} (hg:w.grownBy w' r) (hne:∀ k,v.ownBlock=some k->some k≠r):OwnG E w' base v vs:=by
 refine ⟨⟨h.1.1,?_⟩,h.2⟩;rcases h.1.2 with h2 | ⟨g,cap,cur,rfl,hbg,hgg,q⟩
 ·exact .inl h2
 refine .inr ⟨g,cap,cur,rfl,hbg,?_,q⟩;rw [hg.block g (Array.getElem?_eq_some_iff.1 hgg).1 (hne g rfl)];exact hgg
theorem OwnG.alloc {base:Nat} (h:OwnG E w base v vs) (o:Obj):OwnG E (w.alloc o) base v vs:=⟨World.ownsRow.alloc h.1 o,h.2⟩
theorem OwnG.drew {base:Nat} (h:OwnG E w base v vs):OwnG E w.drew base v vs:=h.later ((Below.refl w.heap.size w).drew) l_
theorem OwnG.nil (E:Elt) (w:World) (base:Nat):OwnG E w base (.slice none 0 0) []:=⟨World.ownsRow_nil w base _ _,by simp,by simp⟩
theorem OwnG.base {base base':Nat} (h:OwnG E w base v vs) (hb:base'<=base):OwnG E w base' v vs:=by
 refine ⟨⟨h.1.1,?_⟩,h.2⟩;rcases h.1.2 with h2 | ⟨g,cap,cur,rfl,hbg,r⟩
 ·exact .inl h2
 exact .inr ⟨g,cap,cur,rfl,Nat.le_trans hb hbg,r⟩
theorem OwnG.lt {base:Nat} (h:OwnG E w base v vs) {k:Nat} (hk:v.ownBlock=some k):base<=k/\k < w.heap.size:=World.ownsRow.lt h.1 k hk
theorem ziT (hE:E.Ok) {ops:Array Oper} {Q:Exit->Act->World->Prop} {rest:List Oper} {a:Act} {dst:Option Tmp} {ty:TypeId} {pos:String} {aft:Array Edge} {s x:Operand}
  (base:Nat) (sv:Value) (hs:a.eval s=sv) (ho:OwnG E w base sv vs) (ad:Addr) (u:List Value) (hx:a.eval x=.slice (some ad) 1 1) (hu:u.length=E.n) (h1:∀ z ∈ u,z.oneCell'=true)
  (hc:∀ j z,u[j]?=some z->w.cell? (ad.add j)=some z) (hn:(vs.length + 1) * E.bytes<=140737488355328) (hn2:vs.length + 1<=140737488355328) (hbase:base<=w.heap.size)
  (B:Nat) (w0:World) (hb:Below B w0 w) (hBb:B<=base)
  (h:∀ v' w',OwnG E w' base v' (vs ++ [u])->Below B w0 w'->w.grownBy w' sv.ownBlock->wpList prog ops Q rest (a.put dst v') w') :
  wpList prog ops Q (⟨dst,.call ⟨.builtin .append,#[s,x],#[E.S,E.S]⟩,ty,pos,aft,none⟩ :: rest) a w:=by
 obtain ⟨i0,hi,hz0,hz1,hz2⟩:=info_parts hE.info;refine wpList_append_own w rfl s x E.S rfl base E.T i0 E.zero E.n E.bytes hE.hS hi hz0 hz1 hz2 hE.hz hE.hn sv vs.length vs.flatten hs ho.1 ad 1 1 u hx (by rw [hu];omega) hc h1 (by unfold maxLen;omega) hn hbase ?_;intro v' w' h1' h2 _;refine h v' w' ⟨?_,?_,?_⟩ (hb.grown h2 (by omega) fun k hk=>?_) h2
 ·rw [List.length_append,List.flatten_append,List.flatten_singleton];exact h1'
 ·intro y hy;rcases List.mem_append.1 hy with hy | hy
  ·exact ho.2.1 y hy
  rw [List.mem_singleton.1 hy];exact hu
 ·intro y hy;rcases List.mem_append.1 hy with hy | hy
  ·exact ho.2.2 y hy
  rw [List.mem_singleton.1 hy];exact h1
 exact Nat.le_trans hBb (World.ownsRow.lt ho.1 k hk).1
end
/- -/
theorem zeZ {s:ByteArray} (h:s.size<=140737488351232):RdS s s.data.toList:=⟨by cases s;rfl,by simpa using h⟩
theorem getD_map {α:Type} (f:α->List Value) (l:List α) (i:Nat) (hi:i < l.length) (d:α):(l.map f).getD i []=f (l.getD i d):=by
 simp [List.getD,hi]
theorem zsV {s t:ByteArray} (h:s≠t):(s.toList == t.toList)=false/\(s.toList != t.toList)=true:=by
 have:s.toList≠t.toList:=by
  rw [Lib.toList_data,Lib.toList_data];intro e;exact h (by cases s;cases t;simp at e;rw [e])
 exact ⟨by simpa using this,by simpa using this⟩
theorem zaE {α:Type} {l:List α} {k:Nat} (h:k < l.length) (d:α):l.take (k + 1)=l.take k ++ [l.getD k d]:=by
 rw [List.take_succ_eq_append_getElem h];simp [List.getD,h]
/- -/
section
variable {H:Type} {enc:TypeId × Value->H} {W:World}
end
/- -/
theorem RdS.size9 {s:ByteArray} {l:Bs} (h:RdS s l):s.size=l.length:=by rw [h.eq];simp [ByteArray.size]
theorem RdS.takeS {s:ByteArray} {l:Bs} (h:RdS s l) (k:Nat):RdS (s.extract 0 k) (l.take k):=by
 refine ⟨?_,by have:=h.small;simp;omega⟩;rw [h.eq];apply ByteArray.ext;simp [ByteArray.size]
theorem RdS.dropS {s:ByteArray} {l:Bs} (h:RdS s l) (k:Nat):RdS (s.extract k s.size) (l.drop k):=by
 refine ⟨?_,by have:=h.small;simp;omega⟩;rw [h.eq];apply ByteArray.ext;simp [ByteArray.size];exact List.take_of_length_le (by simp)
theorem RdS.app9 {a b:ByteArray} {l m:Bs} (ha:RdS a l) (hb:RdS b m) (h:l.length + m.length<=140737488351232):RdS (a ++ b) (l ++ m):=by
 refine ⟨?_,by simpa using h⟩;rw [ha.eq,hb.eq];apply ByteArray.ext;simp
/- -/
section
variable {ops:Array Oper} {a:Act} {w:World} {K:Act->World->Prop} {Q:Exit->Act->World->Prop} {E:Prop} {dst:Option Tmp} {ty:TypeId} {pos:String} {aft:Array Edge} {s x:Operand} {gu:Option (Nat × Bool)}
theorem zhG (base:Nat) (sv:Value) (m:Bs) (xv:Value) (l:Bs) (hw:Region.wanted ⟨dst,.call ⟨.builtin .append,#[s,x],#[22,22]⟩,ty,pos,aft,gu⟩ (yielded ops a.tmps)=true)
  (hs:a.eval s=sv) (ho:Own w base sv m) (hx:a.eval x=xv) (hR:Rd w xv l) (hd:0 < l.length) (hn:m.length + l.length<=140737488355328) (hbase:base<=w.heap.size)
  (B:Nat) (w0:World) (hb:Below B w0 w) (hBb:B<=base)
  (h:∀ v' w',Own w' base v' (m ++ l)->Below B w0 w'->w.grownBy w' sv.ownBlock->K (a.put dst v') w') :
  if Region.wanted ⟨dst,.call ⟨.builtin .append,#[s,x],#[22,22]⟩,ty,pos,aft,gu⟩ (yielded ops a.tmps)=true then Oper.wp prog ⟨dst,.call ⟨.builtin .append,#[s,x],#[22,22]⟩,ty,pos,aft,gu⟩ a w K Q else E:=by
 rw [if_pos hw];obtain ⟨i0,hi,hz0,hz1,hz2⟩:=info_parts zgY;obtain ⟨⟨ao,cap,rfl,hcap,hnil,hsome⟩,hcel,_⟩:=hR;obtain ⟨b,o,rfl⟩:=hsome (by omega);refine wp_append_own w s x 22 rfl base 5 i0 (.int .u8 0) 1 1 underlying22 hi hz0 hz1 hz2 rfl (by decide) sv m.length (za6 m) hs ho ⟨b,o,none⟩ l.length cap (za6 l) hx (by simp [za0]) ?_ (zbK l) (by unfold maxLen;omega) (by omega) hbase ?_
 ·intro j u hj;obtain ⟨hj1,rfl⟩:=zbL hj;exact hcel j hj1
 intro v' w' h1 h2 _;refine h v' w' ?_ (hb.grown h2 (by omega) fun k hk=>?_) h2
 ·rw [<- zaG] at h1;unfold Own;rw [List.length_append];exact h1
 exact Nat.le_trans hBb (World.ownsRow.lt ho k hk).1
end
/- -/
theorem zkU {B:Nat}:OrdR.Way (Below B):=⟨Below.refl B,fun _ _ _ h k=>h.trans k⟩
instance nonempty_belowGW {B:Nat} (w:World):Nonempty (OrdR.GW (Below B) w):=⟨⟨w,Below.refl B w⟩⟩
