/- -/
import Derived.Test.YtlapgdocpndfiaaGreatDoorUColTk
import Derived.Laws.EntriesVeiled
import Derived.Test.YtlapgdocpndfiaaGreatDoorUColWr
set_option maxHeartbeats 8000000
set_option linter.unusedVariables false
set_option linter.unusedSimpArgs false
set_option maxRecDepth 1000000
namespace Go.Proofs.YtlapgdocpndfiaaGreatDoor
open _root_.Go.Proofs.Tryz
open Go.RowKit
structure OwnM (w:World) (base gP:Nat) (ts:List TriB):Prop where
 blk:w.heap[gP]?=some (.cells (ts.map triV).flatten.toArray 86 (0,0))
 lo:base<=gP
 few:ts.length<=1024
 rows:∀ (i:Nat) (t:TriB),ts[i]?=some t->OwnE w (gP + 1) t.1 t.2.1
 wide:∀ t ∈ ts,t.2.1.length<=1024
 apart:∀ (i j:Nat) (t u:TriB) (q:Nat),ts[i]?=some t->ts[j]?=some u->i≠j->t.1.ownBlock=some q->u.1.ownBlock≠some q
theorem znF:∀ (ts:List TriB) (i:Nat) (t:TriB),i < ts.length->((ts.map triV).flatten.set (2 * i) t.1).set (2 * i + 1) (.int .i64 t.2.2)=((ts.set i t).map triV).flatten
 | [],i,t,h=>by simp at h
 | u :: r,0,t,h=>by simp [triV]
 | u :: r,i + 1,t,h=>by
  have ih:=znF r i t (by simpa using h)
  rw [List.set_cons_succ,List.map_cons,List.map_cons,List.flatten_cons,List.flatten_cons,<- ih]
  have e:triV u ++ (r.map triV).flatten=u.1 :: .int .i64 u.2.2 :: (r.map triV).flatten:=rfl
  have e2:∀ l:List Value,triV u ++ l=u.1 :: .int .i64 u.2.2 :: l:=fun _=>rfl
  rw [e,e2,show 2 * (i + 1)=2 * i + 1 + 1 from by omega,List.set_cons_succ,List.set_cons_succ,List.set_cons_succ,List.set_cons_succ]
theorem flat_get:∀ (ts:List TriB) (i:Nat) (t:TriB),ts[i]?=some t->(ts.map triV).flatten[2 * i]?=some t.1/\(ts.map triV).flatten[2 * i + 1]?=some (.int .i64 t.2.2)
 | [],i,t,h=>by simp at h
 | u :: r,0,t,h=>by
  obtain rfl:u=t:=by simpa using h
  exact ⟨rfl,rfl⟩
 | u :: r,i + 1,t,h=>by
  obtain ⟨h1,h2⟩:=flat_get r i t (by simpa using h)
  rw [List.map_cons,List.flatten_cons]
  show ([u.1,Value.int .i64 u.2.2] ++ (r.map triV).flatten)[2 * (i + 1)]?=_/\([u.1,Value.int .i64 u.2.2] ++ (r.map triV).flatten)[2 * (i + 1) + 1]?=_
  rw [show 2 * (i + 1)=2 * i + 2 from by omega]
  exact ⟨by simpa using h1,by simpa using h2⟩
theorem _root_.List.set_getElem?_self9 {α:Type} {l:List α} {i:Nat} {x:α} (h:l[i]?=some x):l.set i x=l:=by
 apply List.ext_getElem?;intro j;rw [List.getElem?_set];split
 ·rename_i e;subst e;rw [h,if_pos (List.getElem?_eq_some_iff.1 h).1]
 rfl
theorem zBK (ts:List TriB) (i:Nat) (t u:TriB) (hi:ts[i]?=some t) (hw:u.2.2=t.2.2):(ts.map triV).flatten.set (2 * i) u.1=((ts.set i u).map triV).flatten:=by
 have hl:=(List.getElem?_eq_some_iff.1 hi).1;rw [<- znF ts i u hl];obtain ⟨_,h2⟩:=flat_get ts i t hi;rw [hw];symm;apply List.set_getElem?_self9;rw [List.getElem?_set_ne (by omega)];exact h2
section
variable {w w':World} {base gP:Nat} {ts:List TriB}
theorem OwnM.cell (h:OwnM w base gP ts) {i:Nat} {t:TriB} (hi:ts[i]?=some t):w.cell? ⟨gP,2 * i,none⟩=some t.1/\w.cell? ⟨gP,2 * i + 1,none⟩=some (.int .i64 t.2.2)/\w.frozen? ⟨gP,2 * i,none⟩=false/\w.frozen? ⟨gP,2 * i + 1,none⟩=false:=by
 obtain ⟨h1,h2⟩:=flat_get ts i t hi;refine ⟨?_,?_,frozen_of_row _ _ _ _ _ h.blk,frozen_of_row _ _ _ _ _ h.blk⟩
 ·rw [cell_of_row _ _ _ _ _ _ h.blk,List.getElem?_toArray];exact h1
 rw [cell_of_row _ _ _ _ _ _ h.blk,List.getElem?_toArray];exact h2
theorem OwnM.lt (h:OwnM w base gP ts):gP < w.heap.size:=(Array.getElem?_eq_some_iff.1 h.blk).1
theorem OwnM.aside (h:OwnM w base gP ts) {r:Option Nat} (hg:w.grownBy w' r) (hr:∀ q,r=some q->q≠gP/\∀ t ∈ ts,t.1.ownBlock≠some q):OwnM w' base gP ts:=by
 refine ⟨(hg.block gP h.lt (fun e=>(hr gP e.symm).1 rfl)).trans h.blk,h.lo,h.few,fun i t hi=>?_,h.wide,h.apart⟩;refine (h.rows i t hi).grown hg (fun k hk e=>?_);exact (hr k e.symm).2 t (List.mem_of_getElem? hi) hk
theorem OwnM.later (h:OwnM w base gP ts) (hb:Below w.heap.size w w'):OwnM w' base gP ts :=
 h.aside (r:=none) ⟨hb.os,hb.tape,hb.output,hb.size,fun j hj _=>hb.block j hj⟩ (fun q e=>by cases e)
theorem OwnM.grow (h:OwnM w base gP ts) {i:Nat} {t:TriB} (hi:ts[i]?=some t) {rv:Value} {c:CellB} (hO:OwnE w' (gP + 1) rv (t.2.1 ++ [c])) (hg:w.grownBy w' t.1.ownBlock)
  (hp:rv.ownBlock=t.1.ownBlock∨∀ q,rv.ownBlock=some q->w.heap.size<=q) (hw:t.2.1.length + 1<=1024) :
  OwnM (w'.setCell ⟨gP,2 * i,none⟩ rv) base gP (ts.set i (rv,(t.2.1 ++ [c],t.2.2))):=by
 have hil:=(List.getElem?_eq_some_iff.1 hi).1;have hown:=h.rows i t hi;have hne:∀ q,t.1.ownBlock=some q->gP + 1<=q/\q < w.heap.size:=fun q hq=>OwnE.lt hown hq;have hblk:w'.heap[gP]?=some (.cells (ts.map triV).flatten.toArray 86 (0,0)):=(hg.block gP h.lt (fun e=>by have:=hne gP e.symm;omega)).trans h.blk;have hgs:w'.grownBy (w'.setCell ⟨gP,2 * i,none⟩ rv) (some gP):=za2 (World.grownBy.refl _ _) _;refine ⟨?_,h.lo,by rw [List.length_set];exact h.few,fun j u hj=>?_,fun u hu=>?_,fun j k a b q hj hk hjk hq=>?_⟩
 ·rw [block_setCell hblk rv];rw [List.setIfInBounds_toArray,zBK ts i t (rv,(t.2.1 ++ [c],t.2.2)) hi rfl]
 ·rw [List.getElem?_set] at hj;split at hj
  ·rename_i e;subst e;injection hj with hj
   subst hj;exact hO.grown hgs (fun q hq e=>by injection e with e;have:=(OwnE.lt hO hq).1;omega)
  rename_i e;have h1:=h.rows j u hj;refine (h1.grown hg (fun q hq e2=>?_)).grown hgs (fun q hq e2=>?_)
  ·exact h.apart j i u t q hj hi (fun e3=>e e3.symm) hq (e2.symm)
  injection e2 with e2;have:=(OwnE.lt h1 hq).1;omega
 ·rcases List.mem_or_eq_of_mem_set hu with hu | rfl
  ·exact h.wide u hu
  show (t.2.1 ++ [c]).length<=1024;rw [List.length_append,List.length_singleton];exact hw
 have key:∀ (k:Nat) (b:TriB) (q:Nat),k≠i->ts[k]?=some b->rv.ownBlock=some q->b.1.ownBlock≠some q:=fun k b q hki hb hq hb2=>by
  rcases hp with e | e
  ·exact h.apart k i b t q hb hi hki hb2 (by rw [<- e];exact hq)
  have:=e q hq;have:=(OwnE.lt (h.rows k b hb) hb2).2;omega
 rw [List.getElem?_set] at hj hk;split at hj
 ·rename_i ej;injection hj with hj
  subst hj;rw [if_neg (by omega)] at hk;exact key k b q (by omega) hk hq
 rename_i ej;split at hk
 ·rename_i ek;injection hk with hk
  subst hk;intro hq2;exact key j a q (by omega) hj hq2 hq
 exact h.apart j k a b q hj hk hjk hq
theorem OwnM.put (h:OwnM w base gP ts) {i:Nat} {t:TriB} (hi:ts[i]?=some t) (x:Int):OwnM (w.setCell ⟨gP,2 * i + 1,none⟩ (.int .i64 x)) base gP (ts.set i (t.1,(t.2.1,x))):=by
 have hil:=(List.getElem?_eq_some_iff.1 hi).1;have hgs:w.grownBy (w.setCell ⟨gP,2 * i + 1,none⟩ (.int .i64 x)) (some gP):=za2 (World.grownBy.refl _ _) _;have hold:∀ (j:Nat) (u:TriB),(ts.set i (t.1,(t.2.1,x)))[j]?=some u->∃ u',ts[j]?=some u'/\u'.1=u.1/\u'.2.1=u.2.1:=fun j u hj=>by
  rw [List.getElem?_set] at hj;split at hj
  ·rename_i e;subst e;injection hj with hj
   subst hj;exact ⟨t,hi,rfl,rfl⟩
  exact ⟨u,hj,rfl,rfl⟩
 refine ⟨?_,h.lo,by rw [List.length_set];exact h.few,fun j u hj=>?_,fun u hu=>?_,fun j k a b q hj hk hjk hq=>?_⟩
 ·rw [block_setCell h.blk _,List.setIfInBounds_toArray,<- znF ts i (t.1,(t.2.1,x)) hil];have:=(flat_get ts i t hi).1;rw [List.set_getElem?_self9 (l:=(ts.map triV).flatten) (i:=2 * i) (x:=t.1) this]
 ·obtain ⟨u',h1,h2,h3⟩:=hold j u hj;have h4:=h.rows j u' h1;rw [h2,h3] at h4;exact h4.grown hgs (fun q hq e=>by injection e with e;have:=(OwnE.lt h4 hq).1;omega)
 ·obtain ⟨j,hj⟩:=List.getElem?_of_mem hu;obtain ⟨u',h1,_,h3⟩:=hold j u hj;rw [<- h3];exact h.wide u' (List.mem_of_getElem? h1)
 obtain ⟨a',a1,a2,_⟩:=hold j a hj;obtain ⟨b',b1,b2,_⟩:=hold k b hk;rw [<- b2];exact h.apart j k a' b' q a1 b1 hjk (by rw [a2];exact hq)
theorem zuZ {v:Value} {cs:List CellB} {b9:Nat} (h:OwnE w b9 v cs):∀ i,i < cs.length->b9<=(adr v (i * 2)).block:=by
 intro i hi;rcases h.1.2 with ⟨rfl,hn⟩ | ⟨q,cap,cur,rfl,hb,_⟩
 ·rw [List.length_map] at hn;omega
 rw [zaK];exact hb
theorem OwnM.own (h:OwnM w base gP ts):OwnG pairE w base (.slice (some ⟨gP,0,none⟩) ts.length ts.length) (ts.map triV):=by
 have hw:∀ x ∈ ts.map triV,x.length=pairE.n:=fun x hx=>by
  obtain ⟨t,_,rfl⟩:=List.mem_map.1 hx;rfl
 have hl:(ts.map triV).flatten.length=(ts.map triV).length * pairE.n:=zbD _ hw;have hfew:=h.few;have:=h.blk;rw [show (ts.map triV).length=ts.length from List.length_map ..] at hl;refine ⟨⟨by rw [hl,List.length_map],.inr ⟨gP,ts.length,(ts.map triV).flatten.toArray,by rw [List.length_map],h.lo,h.blk,by rw [List.length_map];exact l_,by unfold maxLen;omega,?_,?_⟩⟩,hw,fun x hx u hu=>?_⟩
 ·show (ts.map triV).flatten.toArray.size=ts.length * pairE.n;rw [List.size_toArray];exact hl
 ·show (ts.map triV).flatten.toArray.toList.take ((ts.map triV).length * pairE.n)=(ts.map triV).flatten;rw [List.length_map,<- hl,List.toList_toArray,List.take_length]
 obtain ⟨t,ht,rfl⟩:=List.mem_map.1 hx;obtain ⟨i,hi⟩:=List.getElem?_of_mem ht;exact zcD ((h.rows i t hi).rd (by have:=h.wide t ht;omega)) u hu
theorem OwnM.new (h:OwnM w base gP ts):NewP w base (.slice (some ⟨gP,0,none⟩) ts.length ts.length) (ts.map (·.2)):=by
 refine ⟨ts,rfl,h.own.rd (by rw [List.length_map];have:=h.few;omega),fun i hi=>by rw [zaK];exact h.lo,fun t ht=>?_⟩;obtain ⟨i,hi⟩:=List.getElem?_of_mem ht;have h1:=h.rows i t hi;exact ⟨h1.rd (by have:=h.wide t ht;omega),fun j hj=>Nat.le_trans (by have:=h.lo;omega) (zuZ h1 j hj)⟩
theorem OwnM.len (h:OwnM w base gP ts):∀ u,(Builtin.len_ #[43] 3 #[.slice (some ⟨gP,0,none⟩) ts.length ts.length]).run prog u=.ok (.int .i64 (ts.length:Int)) u:=by
 have:=h.new.rd.len;rw [List.length_map] at this;exact this
theorem OwnM.idx (h:OwnM w base gP ts) {i:Nat} (hi:i < ts.length):∀ u,(Instr.indexAt 43 (.slice (some ⟨gP,0,none⟩) ts.length ts.length) (.int .i64 (i:Int))).run prog u=.ok (.pointer (some ⟨gP,2 * i,none⟩)) u:=by
 have:=RdG.idx (h.own.rd (by rw [List.length_map];have:=h.few;omega)) zaY i (by rw [List.length_map];exact hi);rw [zaK] at this;rw [show (0 + i * pairE.n:Nat)=2 * i from by show 0 + i * 2=2 * i;omega] at this;exact this
theorem OwnM.made (w:World) (base n:Nat) (hb:base<=w.heap.size) (hn:n<=1024):OwnM (w.alloc (.cells (List.replicate n (triV (.slice none 0 0,([],0)))).flatten.toArray 86)) base w.heap.size (List.replicate n (.slice none 0 0,([],0))):=by
 rw [<- List.map_replicate];refine ⟨heap_alloc_new _ _,hb,by rw [List.length_replicate];exact hn,fun i t hi=>?_,fun t ht=>?_,fun i j t u q hi hj hij hq=>?_⟩
 ·have:=List.eq_of_mem_replicate (List.mem_of_getElem? hi);subst this;exact OwnE.nil _ _
 ·have:=List.eq_of_mem_replicate ht;subst this;simp
 have:=List.eq_of_mem_replicate (List.mem_of_getElem? hi);subst this;cases hq
end
/- -/
theorem zpE:(prog.info? 86).map (fun i=>(i.zero,i.size,i.bytes))=some (some (.agg #[.slice none 0 0,.int .i64 0]),2,32):=by kernel_rfl
theorem zjW:∀ n:Nat,((List.replicate n ((.slice none 0 0,([],0)):TriB)).map triV).flatten=(List.range (n * 2)).map (fun i=>(#[Value.slice none 0 0,.int .i64 0]:Array Value)[i % 2]!)
 | 0=>rfl
 | n + 1=>by
  rw [List.replicate_succ,List.map_cons,List.flatten_cons,zjW n,show (n + 1) * 2=n * 2 + 1 + 1 from by omega,List.range_succ_eq_map,List.map_cons,List.range_succ_eq_map,List.map_cons,List.map_map,List.map_cons,List.map_map]
  show Value.slice none 0 0 :: Value.int .i64 0 :: _=_
  congr 1
  congr 1
  refine List.map_congr_left fun i _=>?_
  simp only [Function.comp]
  rw [show (Nat.succ (Nat.succ i)) % 2=i % 2 from by omega]
theorem zv7 (n:Nat) (hn:n<=1024) (u:World):(Instr.makeSlice 43 (.int .i64 (n:Int)) (.int .i64 (n:Int))).run prog u =
  .ok (.slice (some ⟨u.heap.size,0,none⟩) n n) (u.alloc (.cells (List.replicate n (triV (.slice none 0 0,([],0)))).flatten.toArray 86)):=by
 obtain ⟨i0,hi,hz0,hz1,hz2⟩:=info_parts zpE;have h:=run_make (P:=prog) u 43 86 i0 (.agg #[.slice none 0 0,.int .i64 0]) underlying43 hi hz0 .i64 .i64 (n:Int) (n:Int) (by omega) (Int.le_refl _) (by rw [hz2];omega) (by omega);rw [h,hz1,Int.toNat_natCast,<- List.map_replicate,zjW];congr 3;simp [madeCells,Value.cells];apply Array.ext
 ·simp
 intro i h1 h2;simp
/- -/
theorem zdX (kind:Int) (w:World) (hT:Tabs w) :
  Calls prog 235 #[.int .i64 kind] w fun e w'=>e=.returned (.int .i64 ((if kind < 0∨5 < kind then 10 else 0:Nat):Int))/\Below w.heap.size w w':=by
 have hc:=zcJ kind 0 ⟨#[]⟩ [] w ⟨rfl,by simp⟩ hT;have e:checkC kind 0 []=if kind < 0∨5 < kind then 10 else 0:=by
  by_cases h:kind < 0∨5 < kind
  ·unfold checkC;rw [if_pos h,if_pos h]
  rw [if_neg h];by_cases ht:kind=3∨kind=4
  ·exact zfK ht (by simp) (fun _=>ziB)
  exact zdE (by omega) ht (fun _=>by decide)
 rw [e] at hc;unfold cellV at hc;generalize (if kind < 0∨5 < kind then 10 else 0:Nat)=y at *;have HC:=h_ hc;clear hc e hT;go_enter func235,ntmps235;go_wp2_with fail;refine HC.mono ?_;rintro e w1 ⟨rfl,hb⟩;have HB:=h_ hb;clear hb HC;go_wp2;go_ret;exact ⟨rfl,HB.o⟩
def codecW (kind:Int):Nat:=if kind=0 then 257 else if kind=2 then 261 else if kind=3∨kind=4 then 263 else 259
def codecT (kind:Int):Nat:=if kind=0 then 258 else if kind=2 then 262 else if kind=3 then 264 else if kind=4 then 265 else 260
theorem zkD (w:World) :
  Calls prog 236 #[.int .i64 0] w fun e w'=>e=.returned (.agg #[.func (.func (codecW 0)) #[] #[],.func (.func (codecT 0)) #[] #[]])/\Below w.heap.size w w':=by
 go_enter func236,ntmps236;go_wp2;refine bodyPost_ret (by simp [results,results236,go_sem];try rfl) rfl ?_;exact ⟨rfl,((Below.refl _ _).alloc l_ _).alloc (by simp) _⟩
theorem zkC (w:World) :
  Calls prog 236 #[.int .i64 1] w fun e w'=>e=.returned (.agg #[.func (.func (codecW 1)) #[] #[],.func (.func (codecT 1)) #[] #[]])/\Below w.heap.size w w':=by
 go_enter func236,ntmps236;go_wp2;refine bodyPost_ret (by simp [results,results236,go_sem];try rfl) rfl ?_;exact ⟨rfl,((Below.refl _ _).alloc l_ _).alloc (by simp) _⟩
theorem zkB (w:World) :
  Calls prog 236 #[.int .i64 2] w fun e w'=>e=.returned (.agg #[.func (.func (codecW 2)) #[] #[],.func (.func (codecT 2)) #[] #[]])/\Below w.heap.size w w':=by
 go_enter func236,ntmps236;go_wp2;refine bodyPost_ret (by simp [results,results236,go_sem];try rfl) rfl ?_;exact ⟨rfl,((Below.refl _ _).alloc l_ _).alloc (by simp) _⟩
theorem zkA (w:World) :
  Calls prog 236 #[.int .i64 3] w fun e w'=>e=.returned (.agg #[.func (.func (codecW 3)) #[] #[],.func (.func (codecT 3)) #[] #[]])/\Below w.heap.size w w':=by
 go_enter func236,ntmps236;go_wp2;refine bodyPost_ret (by simp [results,results236,go_sem];try rfl) rfl ?_;exact ⟨rfl,((Below.refl _ _).alloc l_ _).alloc (by simp) _⟩
theorem zk9 (w:World) :
  Calls prog 236 #[.int .i64 4] w fun e w'=>e=.returned (.agg #[.func (.func (codecW 4)) #[] #[],.func (.func (codecT 4)) #[] #[]])/\Below w.heap.size w w':=by
 go_enter func236,ntmps236;go_wp2;refine bodyPost_ret (by simp [results,results236,go_sem];try rfl) rfl ?_;exact ⟨rfl,((Below.refl _ _).alloc l_ _).alloc (by simp) _⟩
theorem zk8 (w:World) :
  Calls prog 236 #[.int .i64 5] w fun e w'=>e=.returned (.agg #[.func (.func (codecW 5)) #[] #[],.func (.func (codecT 5)) #[] #[]])/\Below w.heap.size w w':=by
 go_enter func236,ntmps236;go_wp2;refine bodyPost_ret (by simp [results,results236,go_sem];try rfl) rfl ?_;exact ⟨rfl,((Below.refl _ _).alloc l_ _).alloc (by simp) _⟩
theorem zf0 (kind:Int) (hk:0<=kind/\kind<=5) (w:World) :
  Calls prog 236 #[.int .i64 kind] w fun e w'=>e=.returned (.agg #[.func (.func (codecW kind)) #[] #[],.func (.func (codecT kind)) #[] #[]])/\Below w.heap.size w w':=by
 obtain rfl | rfl | rfl | rfl | rfl | rfl:kind=0∨kind=1∨kind=2∨kind=3∨kind=4∨kind=5:=by omega
 ·exact zkD w
 ·exact zkC w
 ·exact zkB w
 ·exact zkA w
 ·exact zk9 w
 exact zk8 w
theorem znH (kind:Int) (args:Array Value) (u:World):(callFunc (codecW kind) args).run prog u=.ok (.enter (codecW kind) args) u:=by
 unfold codecW;split
 ·exact zcO func257 (by kernel_rfl) rfl args u
 split
 ·exact zcO func261 (by kernel_rfl) rfl args u
 split
 ·exact zcO func263 (by kernel_rfl) rfl args u
 exact zcO func259 (by kernel_rfl) rfl args u
theorem znI (kind:Int) (args:Array Value) (u:World):(callFunc (codecT kind) args).run prog u=.ok (.enter (codecT kind) args) u:=by
 unfold codecT;split
 ·exact zcO func258 (by kernel_rfl) rfl args u
 split
 ·exact zcO func262 (by kernel_rfl) rfl args u
 split
 ·exact zcO func264 (by kernel_rfl) rfl args u
 split
 ·exact zcO func265 (by kernel_rfl) rfl args u
 exact zcO func260 (by kernel_rfl) rfl args u
/- -/
theorem znQ (kind:Int) (hk:0<=kind/\kind<=5) (v:Value) (cs:List CellB) (w:World) (hv:RdE w v cs) (hC:CES cs) (hE:errK kind (cesL cs)=0) (hs:10 * cs.length + sumT (cesL cs)<=1000000) :
  Calls prog (codecW kind) #[v] w (RetB w (wrC kind (cesL cs))):=by
 obtain rfl | rfl | rfl | rfl | rfl | rfl:kind=0∨kind=1∨kind=2∨kind=3∨kind=4∨kind=5:=by omega
 ·exact zi3 v cs w hv hC (by omega)
 ·exact zdB 1 (.inl rfl) v cs w hv hC (by omega)
 ·exact zh1 v cs w hv hC hE (by omega)
 ·exact zdC 3 (.inl rfl) v cs w hv hC hE hs
 ·exact zdC 4 (.inr rfl) v cs w hv hC hE hs
 exact zdB 5 (.inr rfl) v cs w hv hC (by omega)
theorem zpZ (kind:Int) (v:Value) (cs:List CellB) (w:World) (hv:RdE w v cs) (hC:CES cs) (hT:Tabs w) (hs:wrE kind (cesL cs)=0->10 * cs.length + sumT (cesL cs)<=1000000) :
  Calls prog 189 #[.int .i64 kind,v] w (WrK w kind cs):=by
 have CKd:=h_ (zdX kind w hT);by_cases hk:kind < 0∨5 < kind
 ·rw [if_pos hk] at CKd;have HE:=h_ (show wrE kind (cesL cs)=10 by unfold wrE;rw [if_pos hk]);clear hv hC hT hs hk;go_enter func189,ntmps189;go_wp2_with fail;refine CKd.mono ?_;rintro e w1 ⟨rfl,hb⟩;have HB:=h_ hb;clear hb CKd;go_wp2;go_ret2;exact ⟨_,by rw [HE.o];rfl,by rw [HE.o,if_neg (by decide)];exact zaT _ _,HB.o⟩
 rw [if_neg hk] at CKd;have hk9:0<=kind/\kind<=5:=by omega
 have HKd:=h_ hk9;have HWE:=h_ (show wrE kind (cesL cs)=errK kind (cesL cs) by unfold wrE;rw [if_neg hk]);have hlen:=hv.len;have hsm:=hv.small;obtain ⟨n,hn⟩:=nm_ cs.length;rw [<- hn] at hlen hsm;have HN:=h_ hn;have HV:=h_ hv;have HC:=h_ hC;have HS:=h_ hs;have HT:=h_ hT;clear hv hC hs hn hk hk9 hT;go_enter func189,ntmps189;go_wp2_with fail;refine CKd.mono ?_;rintro e w1 ⟨rfl,hb⟩;have HB1:=h_ hb;clear hb CKd;go_wp2;go_loopw [17] (fun i wr=>∃ k:Nat,k<=n/\i=.int .i64 k/\Hid (Below w.heap.size w wr)/\Hid (errK kind ((cesL cs).take k)=0)) (fun i _=>n - (intOf i).toNat)
 case atStart=>exact ⟨0,by omega,rfl,HB1,h_ rfl⟩
 clear HB1;obtain ⟨k,hk,rfl,HB,HK0⟩:=hrel;by_cases hlt:k < n
 ·have kl:k < cs.length:=by rw [<- HN.o];exact hlt
  have hr:=HV.later HB.o l_;obtain ⟨b,o,hidx,hcell,hblk⟩:=hr.get kl;obtain ⟨hc0,hc1⟩:=hcell _ hr;obtain ⟨ha1,ha2⟩:=zE9 kl HK0.o;have HA1:=h_ ha1;have HA2:=h_ ha2;obtain ⟨g1,g2⟩:=CES.get HC.o kl;rcases hcg:cs.getD k default with ⟨x,s⟩
  rw [hcg] at hc0 hc1 HA1 HA2 g1 g2;dsimp only at hc0 hc1 g1 g2;have hS:=zeZ g2;obtain ⟨t,ht⟩:=nm_ s.data.toList;have HTt:=h_ ht;rw [<- ht] at hS;have HB6:=h_ (show Below w.heap.size w (wr.alloc (.cells #[.int .u64 (x:Int),.string s] 82)) from HB.alloc HB.size _);have CK:=h_ (zcJ kind x s t (wr.alloc (.cells #[.int .u64 (x:Int),.string s] 82)) hS (HT.later (HB6.o)));unfold cellV at CK;obtain ⟨y,hy⟩:=nm_ (checkC kind x t);have HY:=h_ hy;rw [<- hy] at CK;clear hr hcell ha1 ha2 hcg hS ht g1 g2 hy HB;go_wp2_with fail;refine CK.mono ?_;rintro e w4 ⟨rfl,hb⟩;have HB4:=bT HB6 hb;clear hb CK HB6;by_cases hy0:y=0
  ·have hyb:((y:Int) != 0)=false:=(by rw [bne_eq_false_iff_eq];omega);have HEk:=h_ (HA2.o (by rw [<- HTt.o,<- HY.o];exact hy0));clear HA1 HA2 hc0 hc1;go_wp2;go_roundw
   case rel=>exact ⟨k + 1,by omega,by go_num,HB4,HEk⟩
   simp [intOf];omega
  have hyb:((y:Int) != 0)=true:=by rw [bne_iff_ne];omega
  have HF:=h_ (show wrE kind (cesL cs)=y from by rw [HWE.o,HA1.o (by rw [<- HTt.o,<- HY.o];exact hy0)];rw [<- HTt.o,<- HY.o]);clear HA1 HA2 hc0 hc1;go_wp2;go_ret2;exact ⟨_,by rw [HF.o];rfl,by rw [HF.o,if_neg hy0];exact zaT _ _,HB4.o⟩
 obtain rfl:k=n:=by omega
 have hka:(cesL cs).take k=cesL cs:=List.take_of_length_le (by rw [za8,<- HN.o];exact l_);have hE0:errK kind (cesL cs)=0:=by rw [<- hka];exact HK0.o
 have HF:=h_ (show wrE kind (cesL cs)=0 from by rw [HWE.o];exact hE0);have HE0:=h_ hE0;have CD:=h_ (zf0 kind HKd.o wr);obtain ⟨nf,hnf⟩:=nm_ (codecW kind);have hent:=znH kind #[v];rw [<- hnf] at hent;rw [<- hnf] at CD;have HNF:=h_ hnf;obtain ⟨nt,hnt⟩:=nm_ (codecT kind);rw [<- hnt] at CD;have hfd:∀ u,(Instr.field 318 (.agg #[.func (.func nf) #[] #[],.func (.func nt) #[] #[]]) 0).run prog u=.ok (.func (.func nf) #[] #[]) u:=fun _=>by kernel_rfl
 clear hka hlt hnf hnt hE0;go_wp2_with fail;refine CD.mono ?_;rintro e w2 ⟨rfl,hb⟩;have HB2:=bT HB hb;have CW:=h_ (znQ kind HKd.o v cs w2 (HV.later HB2.o l_) HC.o HE0.o (HS.o HF.o));rw [<- HNF.o] at CW;clear hb CD;go_wp2_with fail;refine CW.mono ?_;rintro e w3 ⟨bv,rfl,hO,hb⟩;have HB3:=bT HB2 hb;have HO3:=h_ (hO.base HB2.size);clear hb hO CW hent hfd;go_wp2;go_ret2;exact ⟨_,by rw [HF.o];rfl,by rw [HF.o,if_pos rfl];exact HO3.o,HB3.o⟩
