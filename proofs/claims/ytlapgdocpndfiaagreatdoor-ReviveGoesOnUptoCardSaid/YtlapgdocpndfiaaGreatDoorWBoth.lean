/- -/
import Derived.Test.YtlapgdocpndfiaaGreatDoorWCell
import Derived.Lib.LaidU8T
import Derived.PinnedBridge
import Derived.Lay
import Derived.Handed
import Derived.OpenVars
import Derived.Shelf.Vars
import Derived.Deep.Slices
import Derived.Deep.MidRow
import Derived.Lib.SmallJoins
import Derived.RangeFuncNested
import Derived.RangeFuncBound
import Derived.RangeFuncCalls
import Derived.RangeFuncLeaves
import Derived.Shelf.Abstract
import Derived.Shelf.RegionOpen
import Derived.OwnWalkIn
import Derived.TacticsInMore
import Derived.LoopNIn
import Derived.LoopIn
import Derived.Stop.RegionWithIn
set_option maxHeartbeats 4000000
set_option linter.unusedVariables false
set_option linter.unusedSimpArgs false
set_option maxRecDepth 1000000
namespace Go.Proofs.YtlapgdocpndfiaaGreatDoor
open _root_.Go.Proofs.Tryz
open Go.ChangeShapes Go.WideShapes Go.ChangeAt Go.RowKit Go.Shelf Go.Deep
theorem zBO:U8Extra prog Tryz.laysValid_ren:=⟨by kernel_rfl,by kernel_rfl,by kernel_rfl,by kernel_rfl,by kernel_rfl,by kernel_rfl,by kernel_rfl⟩
theorem zyG:(Rows.laid_unicode_utf8_acceptRanges:DataW Unit)=Lib.acceptData:=by kernel_rfl
theorem zgF {W : World} (h1 : Lib.VarReads prog W "unicode/utf8.first" Rows.laid_unicode_utf8_first) (h2 : Lib.VarReads prog W "unicode/utf8.acceptRanges" Rows.laid_unicode_utf8_acceptRanges) : Tabs W :=
 utf8Tabs_of_readsT (U8Types.of196 Tryz.laysValid) zBO (Pinned.utf8First_eq ▸ h1) (zyG ▸ h2)
section
variable {H:Type} {enc:TypeId × Value->H} {W:World}
theorem zmB:prog.cellsOf 82=2:=by kernel_rfl
theorem zxV {m:Nat} {cs:List Value} {x:DataW H × List MemPlace} (h:DataW.trod enc prog W 0 (fun _=>true) true m 82 cs=some x) :
  ∃ (n:Nat) (s:ByteArray),cs=[.int .u64 (n:Int),.string s]/\x.1=.agg [.lit (.int .u64 (n:Int)),.lit (.string s.data.toList)]/\n < 18446744073709551616:=by
 obtain ⟨y0,y1,k,hx,hl,h0,h1⟩:=trod_struct2 underlying82 h;rw [zmB] at hl
 match cs,hl with
 | [c0,c1],_ =>
  have k9:prog.cellsOf 80=1:=by kernel_rfl
  have k8:prog.cellsOf 9=1:=by kernel_rfl
  simp [k9,k8] at h0 h1;obtain ⟨a,e0,e1,wa⟩:=DataW.trod_int underlying80 h0;obtain ⟨s,e2,e3,_⟩:=DataW.trod_string underlying9 h1;simp at e0 e2;subst e0 e2;have hb:=zE9 wa;obtain ⟨n,rfl⟩:∃ n:Nat,a=n:=⟨a.toNat,by omega⟩;exact ⟨n,s,rfl,by rw [hx];simp [e1,e3],by omega⟩
theorem zb0 {P:Program} {e:TypeId} {d:DataW H} {n:Nat} (hn:n ∈ d.weights P e):∀ {l:List (DataW H)},d ∈ l->n ∈ DataW.weightsAll P e l
 | [],h=>by simp at h
 | a :: r,h=>by
  rw [DataW.weightsAll,List.mem_append]
  rcases List.mem_cons.1 h with rfl | h
  ·exact .inl hn
  ·exact .inr (zb0 hn h)
theorem zuC {m:Nat} {cs:List Value} {x:DataW H × List MemPlace} (h:DataW.trod enc prog W 0 (fun _=>true) true m 82 cs=some x) :
  ∃ (c:CellB),cs=cellVs c/\x.1=.agg [.lit (.int .u64 (c.1:Int)),.lit (.string c.2.data.toList)]/\c.1 < 18446744073709551616:=by
 obtain ⟨n,s,h1,h2,h3⟩:=zxV h;exact ⟨(n,s),h1,h2,h3⟩
theorem zuB {fuel:Nat} {v:Value} {d:DataW H} {ps:List MemPlace} (hf:DataW.trod enc prog W 0 (fun _=>true) true fuel 84 [v]=some (d,ps)) (hzd:∀ n ∈ d.weights prog 84,n<=reachBytes):∃ cs,RdE W v cs/\CES cs:=by
 have hb1:1<=prog.bytesOf 82:=Nat.le_of_ble_eq_true (by kernel_rfl);rcases open_slice underlying84 hf with ⟨hcs,_⟩ | ⟨x,len,c,m,n,D,Pl,hcs,_,hl,hm,hmm,hx,hcell⟩
 ·obtain rfl:v=.slice none 0 0:=by simpa using hcs
  exact ⟨[],RdE.nil W,fun c hc=>absurd hc (by simp)⟩
 obtain rfl:v=.slice (some x) len c:=by simpa using hcs
 simp only [Prod.mk.injEq] at hx;obtain ⟨rfl,_⟩:=hx;simp only [if_true] at hmm;subst hmm;have hw:∀ i,i < len->∀ k ∈ (D i).weights prog 82,k<=reachBytes:=fun i hi k hk=>by
  refine hzd k ?_;rw [DataW.weights];simp only [underlying84];refine List.mem_cons_of_mem _ (List.mem_append.2 (.inl (zb0 hk ?_)));exact List.mem_map.2 ⟨i,List.mem_range.2 hi,rfl⟩
 have hs:=hzd _ (by rw [DataW.weights];simp only [underlying84];exact List.mem_cons_self ..);simp only [List.length_map,List.length_range,reachBytes] at hs;have hs2:len<=140737488351232:=by
  have:(len + (m - len)) * 1<=(len + (m - len)) * prog.bytesOf 82:=Nat.mul_le_mul_left _ hb1;omega
 rw [zmB] at hcell
 obtain ⟨L,hL⟩:=choose_lt (α:=CellB) (p:=fun i a=>ceS a/\∀ j u,(cellVs a)[j]?=some u->W.cell? ((x.add (i * 2)).add j)=some u) (n:=len) (fun i hi=>by
  obtain ⟨cs',h1,h2⟩:=hcell i (by omega)
  obtain ⟨_,h3,h4⟩:=World.cells?_some h1
  obtain ⟨a,rfl,hwa,hk1⟩:=zuC h2
  have hsz:=hw i hi a.2.data.toList.length (by
   dsimp only at hwa
   rw [hwa]
   simp [DataW.weights,underlying82,DataW.weightsEach])
  refine ⟨a,⟨hk1,by simpa [reachBytes] using hsz⟩,fun j u hu=>?_⟩
  have hj:j < 2:=by have:=(List.getElem?_eq_some_iff.1 hu).1;simpa [cellVs] using this
  rw [h4 j hj,hu])
 have hlen:((List.range len).map L).length=len:=by simp
 have e:∀ i,i < len->((List.range len).map L).getD i default=L i:=fun i hi=>by simp [List.getD,hi]
 have hsp:0 < len->∃ b o,x=⟨b,o,none⟩:=by
  intro hp;have h0:=(hL 0 hp).2 0 _ rfl;obtain ⟨b,o,sp⟩:=x;cases sp with
  | none=>exact ⟨b,o,rfl⟩
  | some s =>
   exfalso;simp only [Addr.add,if_true,World.cell?] at h0;split at h0 <;> simp at h0
 refine ⟨(List.range len).map L,⟨⟨some x,_,by rw [List.length_map,hlen],by rw [List.length_map,hlen];omega,(by intro h;cases h),fun hp=>?_⟩,?_,?_,by rw [List.length_map,hlen];exact hs2⟩,?_⟩
 ·rw [List.length_map,hlen] at hp;obtain ⟨b,o,rfl⟩:=hsp hp;exact ⟨b,o,rfl⟩
 ·intro i hi j u hu;rw [List.length_map,hlen] at hi;rw [getD_map cellVs _ i (by rw [hlen];exact hi) default,e i hi] at hu;have:=(hL i hi).2 j u hu;obtain ⟨b,o,rfl⟩:=hsp (by omega);rw [Addr.add_mid,Addr.add_mid,Nat.add_assoc] at this;rw [zaG];exact this
 ·intro z hz;obtain ⟨c,_,rfl⟩:=List.mem_map.1 hz;rfl
 intro c hc;obtain ⟨i,hi,rfl⟩:=List.mem_map.1 hc;exact (hL i (List.mem_range.1 hi)).1
end
/- -/
section
variable {H:Type} {enc:TypeId × Value->H} {W:World}
theorem zhH:prog.cellsOf 79=2:=by kernel_rfl
theorem zAF {m:Nat} {cs:List Value} {x:DataW H × List MemPlace} (h:DataW.trod enc prog W 0 (fun _=>true) true m 79 cs=some x) :
  ∃ (c:ColB),cs=colV c/\x.1=.agg [.lit (.string c.1.data.toList),.lit (.int .i64 c.2)]/\-9223372036854775808<=c.2/\c.2<=9223372036854775807:=by
 obtain ⟨y0,y1,k,hx,hl,h0,h1⟩:=trod_struct2 underlying79 h;rw [zhH] at hl
 match cs,hl with
 | [c0,c1],_ =>
  have k9:prog.cellsOf 3=1:=by kernel_rfl
  have k8:prog.cellsOf 9=1:=by kernel_rfl
  simp [k9,k8] at h0 h1;obtain ⟨s,e2,e3,_⟩:=DataW.trod_string underlying9 h0;obtain ⟨a,e0,e1,wa⟩:=DataW.trod_int underlying3 h1;simp at e0 e2;subst e0 e2;have hb:=zt1 wa;exact ⟨(s,a),rfl,by rw [hx];simp [e1,e3],hb.1,hb.2⟩
theorem zkE {base:Nat} {v:Value} {d:DataW H} {ps:List MemPlace} {ts:List TypeId} {ds:List (DataW H)} {j:Nat} (hval:Value.okWide prog W .any base 24 v)
  (h:DataW.Trod enc prog W 0 (fun _=>true) true 24 v d ps) (hz:(DataW.weightsEach prog ts ds).all (·<=reachBytes)=true) (ht:ts[j]?=some 24) (hd:ds[j]?=some d):∃ cs,RdC W v cs/\CS cs:=by
 have hzd:∀ n ∈ d.weights prog 24,n<=reachBytes:=fun n hn=>by
  have:=List.all_eq_true.1 hz _ (DataW.weights_mem_each ht hd n hn);simpa using this
 obtain ⟨a0,len,cap,rfl⟩:=okWide_slice underlying24 hval;obtain ⟨fuel,hf⟩:=h;have hb1:1<=prog.bytesOf 79:=Nat.le_of_ble_eq_true (by kernel_rfl);rcases open_slice underlying24 hf with ⟨hcs,_⟩ | ⟨x,l,c,m,n,D,Pl,hcs,_,hl,hm,hmm,hx,hcell⟩
 ·simp [Value.cells] at hcs;obtain ⟨rfl,rfl,rfl⟩:=hcs;exact ⟨[],RdC.nil W,fun c hc=>absurd hc (by simp)⟩
 simp [Value.cells] at hcs;obtain ⟨rfl,rfl,rfl⟩:=hcs;simp only [Prod.mk.injEq] at hx;obtain ⟨rfl,_⟩:=hx;simp only [if_true] at hmm;subst hmm;have hw:∀ i,i < len->∀ k ∈ (D i).weights prog 79,k<=reachBytes:=fun i hi k hk=>by
  refine hzd k ?_;rw [DataW.weights];simp only [underlying24];refine List.mem_cons_of_mem _ (List.mem_append.2 (.inl (zb0 hk ?_)));exact List.mem_map.2 ⟨i,List.mem_range.2 hi,rfl⟩
 have hs:=hzd _ (by rw [DataW.weights];simp only [underlying24];exact List.mem_cons_self ..);simp only [List.length_map,List.length_range,reachBytes] at hs;have hs2:len<=140737488351232:=by
  have:(len + (m - len)) * 1<=(len + (m - len)) * prog.bytesOf 79:=Nat.mul_le_mul_left _ hb1;omega
 rw [zhH] at hcell
 obtain ⟨L,hL⟩:=choose_lt (α:=ColB) (p:=fun i a=>(a.1.size<=140737488351232/\-9223372036854775808<=a.2/\a.2<=9223372036854775807)/\∀ j u,(colV a)[j]?=some u->W.cell? ((x.add (i * 2)).add j)=some u) (n:=len) (fun i hi=>by
  obtain ⟨cs',h1,h2⟩:=hcell i (by omega)
  obtain ⟨_,h3,h4⟩:=World.cells?_some h1
  obtain ⟨a,rfl,hwa,hk1,hk2⟩:=zAF h2
  have hsz:=hw i hi a.1.data.toList.length (by
   dsimp only at hwa
   rw [hwa]
   simp [DataW.weights,underlying79,DataW.weightsEach])
  refine ⟨a,⟨by simpa [reachBytes] using hsz,hk1,hk2⟩,fun j u hu=>?_⟩
  have hj:j < 2:=by have:=(List.getElem?_eq_some_iff.1 hu).1;simpa [colV] using this
  rw [h4 j hj,hu])
 have hlen:((List.range len).map L).length=len:=by simp
 have e:∀ i,i < len->((List.range len).map L).getD i default=L i:=fun i hi=>by simp [List.getD,hi]
 have hsp:0 < len->∃ b o,x=⟨b,o,none⟩:=by
  intro hp;have h0:=(hL 0 hp).2 0 _ rfl;obtain ⟨b,o,sp⟩:=x;cases sp with
  | none=>exact ⟨b,o,rfl⟩
  | some s =>
   exfalso;simp only [Addr.add,if_true,World.cell?] at h0;split at h0 <;> simp at h0
 refine ⟨(List.range len).map L,⟨⟨some x,_,by rw [List.length_map,hlen],by rw [List.length_map,hlen];omega,(by intro h;cases h),fun hp=>?_⟩,?_,?_,by rw [List.length_map,hlen];exact hs2⟩,?_⟩
 ·rw [List.length_map,hlen] at hp;obtain ⟨b,o,rfl⟩:=hsp hp;exact ⟨b,o,rfl⟩
 ·intro i hi j u hu;rw [List.length_map,hlen] at hi;rw [getD_map colV _ i (by rw [hlen];exact hi) default,e i hi] at hu;have:=(hL i hi).2 j u hu;obtain ⟨b,o,rfl⟩:=hsp (by omega);rw [Addr.add_mid,Addr.add_mid,Nat.add_assoc] at this;rw [zaG];exact this
 ·intro z hz;obtain ⟨c,_,rfl⟩:=List.mem_map.1 hz;rfl
 intro c hc;obtain ⟨i,hi,rfl⟩:=List.mem_map.1 hc;exact (hL i (List.mem_range.1 hi)).1
theorem zmA:prog.cellsOf 86=2:=by kernel_rfl
theorem zwL {m:Nat} {cs:List Value} {x:DataW H × List MemPlace} (h:DataW.trod enc prog W 0 (fun _=>true) true m 86 cs=some x) (hw:∀ n ∈ x.1.weights prog 86,n<=reachBytes) :
  ∃ t:TriB,cs=triV t/\RdE W t.1 t.2.1/\CES t.2.1/\inW t.2.2:=by
 obtain ⟨y0,y1,k,hx,hl,h0,h1⟩:=trod_struct2 underlying86 h;rw [zmA] at hl
 match cs,hl with
 | [c0,c1],_ =>
  have k9:prog.cellsOf 2=1:=by kernel_rfl
  have k8:prog.cellsOf 84=1:=by kernel_rfl
  simp [k9,k8] at h0 h1;obtain ⟨a,e0,e1,wa⟩:=DataW.trod_int underlying2 h1;simp at e0;subst e0;have hb:=zt1 wa
  obtain ⟨r,hr,hc⟩:=zuB (d:=y0.1) (ps:=y0.2) h0 (fun n hn=>hw n (by
   rw [hx]
   simp only [DataW.weights,underlying86]
   simp [DataW.weightsEach,hn]))
  exact ⟨(c0,(r,a)),rfl,hr,hc,hb⟩
theorem zlU {fuel:Nat} {v:Value} {d:DataW H} {pl:List MemPlace} (hf:DataW.trod enc prog W 0 (fun _=>true) true fuel 43 [v]=some (d,pl)) (hzd:∀ n ∈ d.weights prog 43,n<=reachBytes):∃ ps,RdP W v ps/\PSO ps/\ps.length * 32<=140737488351232:=by
 have hb1:1<=prog.bytesOf 86:=Nat.le_of_ble_eq_true (by kernel_rfl);rcases open_slice underlying43 hf with ⟨hcs,_⟩ | ⟨x,len,c,m,n,D,Pl,hcs,_,hl,hm,hmm,hx,hcell⟩
 ·obtain rfl:v=.slice none 0 0:=by simpa using hcs
  exact ⟨[],RdP.nil W,fun c hc=>absurd hc (by simp),by simp⟩
 obtain rfl:v=.slice (some x) len c:=by simpa using hcs
 simp only [Prod.mk.injEq] at hx;obtain ⟨rfl,_⟩:=hx;simp only [if_true] at hmm;subst hmm;have hw:∀ i,i < len->∀ k ∈ (D i).weights prog 86,k<=reachBytes:=fun i hi k hk=>by
  refine hzd k ?_;rw [DataW.weights];simp only [underlying43];refine List.mem_cons_of_mem _ (List.mem_append.2 (.inl (zb0 hk ?_)));exact List.mem_map.2 ⟨i,List.mem_range.2 hi,rfl⟩
 have hs:=hzd _ (by rw [DataW.weights];simp only [underlying43];exact List.mem_cons_self ..);simp only [List.length_map,List.length_range,reachBytes] at hs;have hs2:len<=140737488351232:=by
  have:(len + (m - len)) * 1<=(len + (m - len)) * prog.bytesOf 86:=Nat.mul_le_mul_left _ hb1;omega
 have hby:prog.bytesOf 86=32:=by kernel_rfl
 rw [hby] at hs;rw [zmA] at hcell
 obtain ⟨L,hL⟩:=choose_lt (α:=TriB) (p:=fun i a=>(RdE W a.1 a.2.1/\CES a.2.1/\inW a.2.2)/\∀ j u,(triV a)[j]?=some u->W.cell? ((x.add (i * 2)).add j)=some u) (n:=len) (fun i hi=>by
  obtain ⟨cs',h1,h2⟩:=hcell i (by omega)
  obtain ⟨_,h3,h4⟩:=World.cells?_some h1
  obtain ⟨a,rfl,hr⟩:=zwL h2 (hw i hi)
  refine ⟨a,hr,fun j u hu=>?_⟩
  have hj:j < 2:=by have:=(List.getElem?_eq_some_iff.1 hu).1;simpa [triV] using this
  rw [h4 j hj,hu])
 have hlen:((List.range len).map L).length=len:=by simp
 have e:∀ i,i < len->((List.range len).map L).getD i default=L i:=fun i hi=>by simp [List.getD,hi]
 have hsp:0 < len->∃ b o,x=⟨b,o,none⟩:=by
  intro hp;have h0:=(hL 0 hp).2 0 _ rfl;obtain ⟨b,o,sp⟩:=x;cases sp with
  | none=>exact ⟨b,o,rfl⟩
  | some s =>
   exfalso;simp only [Addr.add,if_true,World.cell?] at h0;split at h0 <;> simp at h0
 have hmem:∀ t ∈ (List.range len).map L,RdE W t.1 t.2.1/\CES t.2.1/\inW t.2.2:=by
  intro t ht;obtain ⟨i,hi,rfl⟩:=List.mem_map.1 ht;exact (hL i (List.mem_range.1 hi)).1
 refine ⟨((List.range len).map L).map (·.2),⟨(List.range len).map L,rfl,⟨⟨some x,_,by rw [List.length_map,hlen],by rw [List.length_map,hlen];omega,(by intro h;cases h),fun hp=>?_⟩,?_,?_,by rw [List.length_map,hlen];exact hs2⟩,fun t ht=>(hmem t ht).1⟩,?_,by simp;omega⟩
 ·rw [List.length_map,hlen] at hp;obtain ⟨b,o,rfl⟩:=hsp hp;exact ⟨b,o,rfl⟩
 ·intro i hi j u hu;rw [List.length_map,hlen] at hi;rw [getD_map triV _ i (by rw [hlen];exact hi) default,e i hi] at hu;have:=(hL i hi).2 j u hu;obtain ⟨b,o,rfl⟩:=hsp (by omega);rw [Addr.add_mid,Addr.add_mid,Nat.add_assoc] at this;rw [zaG];exact this
 ·intro z hz;obtain ⟨t,_,rfl⟩:=List.mem_map.1 hz;rfl
 intro p hp;obtain ⟨t,ht,rfl⟩:=List.mem_map.1 hp;exact (hmem t ht).2
theorem zlT {base:Nat} {v:Value} {d:DataW H} {pl:List MemPlace} {ts:List TypeId} {ds:List (DataW H)} {j:Nat} (hval:Value.okWide prog W .any base 43 v)
  (h:DataW.Trod enc prog W 0 (fun _=>true) true 43 v d pl) (hz:(DataW.weightsEach prog ts ds).all (·<=reachBytes)=true) (ht:ts[j]?=some 43) (hd:ds[j]?=some d):∃ ps,RdP W v ps/\PSO ps/\ps.length * 32<=140737488351232:=by
 have hzd:∀ n ∈ d.weights prog 43,n<=reachBytes:=fun n hn=>by
  have:=List.all_eq_true.1 hz _ (DataW.weights_mem_each ht hd n hn);simpa using this
 obtain ⟨a0,len,cap,rfl⟩:=okWide_slice underlying43 hval;obtain ⟨fuel,hf⟩:=h;exact zlU hf hzd
end
/- -/
attribute [local go_sem] Oper.semAt_some
def Mine (n0 b1 b2:Nat) (j:Nat):Prop:=n0<=j/\j≠b1/\j≠b2
theorem zlX {n0 b1 b2:Nat} {W W':World} (h:Only (Mine n0 b1 b2) W W') (hn:n0<=W.heap.size):Below n0 W W':=h.toBelow (fun j hj=>hj.1) hn
theorem zwS {S:Nat->Prop} {A B C:World} (h:Only S A B) (k:Only S B C):Only S A C:=h.trans k
theorem zwT {n0 b1 b2:Nat} {w:World} (hn:n0<=w.heap.size) (h1:b1 < w.heap.size) (h2:b2 < w.heap.size) (W:World) (l:Nat) (o o':Obj) (hl:w.heap.size<=l) (h:W.heap[l]?=some o) (_:o.isCells=false) (_:o.isWalk=false):Only (Mine n0 b1 b2) W (W.putObj l o') :=
 (Only.refl _ W).grown (grownBy_putObj' W l o') ⟨by omega,by omega,by omega⟩
theorem zl0 {β:Type} {B:Nat} {J:β->World->Prop} (h:AbidesFrom B J) {s:β} {W:World} (hs:J s W):J s W.drew :=
 h s W W.drew none hs ⟨rfl,rfl,rfl,l_,fun _ _ _=>rfl⟩ (fun r e=>by cases e)
theorem zq5 {α β:Type} [Inhabited α] [Inhabited β] (xs:List α) (ys:List β) (h:xs.length=ys.length) (k:Nat) (hk:k < xs.length):(xs.zip ys).take (k + 1)=(xs.zip ys).take k ++ [(xs.getD k default,ys.getD k default)]:=by
 have hz:k < (xs.zip ys).length:=by rw [List.length_zip];omega
 rw [List.take_succ_eq_append_getElem hz];simp [List.getD,hk,show k < ys.length from by omega]
theorem zuP {α β:Type} [Inhabited α] [Inhabited β] (xs:List α) (ys:List β) (h:xs.length=ys.length) (k:Nat) (hk:k < xs.length):(xs.getD k default,ys.getD k default) ∈ xs.zip ys:=by
 have hz:k < (xs.zip ys).length:=by rw [List.length_zip];omega
 have e:(xs.getD k default,ys.getD k default)=(xs.zip ys)[k]:=by simp [List.getD,hk,show k < ys.length from by omega]
 rw [e];exact List.getElem_mem _
def Through {α:Type} (n:Nat) (P:Program) (gf:Nat) (lb:Array Value) (encs:α->Array Value) (zs:List α) (Kp:World->World->Prop) (w:World):Prop :=
 SeqStopsK (α:={ x // x ∈ zs }) Fence.wide n P gf lb (fun x=>encs x.1) Kp (fun ys=>ys.map (·.1)=zs) (fun pre=>∃ k,k<=zs.length/\pre.map (·.1)=zs.take k) zs.length w
theorem zqY {α β:Type} {B:Nat} {Kp:World->World->Prop} {I:List β->World->Prop} {Ix:Code->List β->World->Prop} (f:α->β) {xs:List α} {W:World}:∀ (e:Exit) (a:Act) (W':World),
  ownPostG B Kp I Ix (xs.map f) W e a W'->ownPostG B Kp (fun p=>I (p.map f)) (fun c p=>Ix c (p.map f)) xs W e a W':=by
 intro e a W' h;cases e <;> exact h
theorem zd9 {α:Type} {n:Nat} {P:Program} {g:Operand} {ps:Array Tmp} {assign body:Code} {Q:Exit->Act->World->Prop} {a:Act} {w:World}
  (h1:1<=n) {gf:Nat} {lb:Array Value} (hg:a.eval g=.func (.func gf) #[] lb) (eg:∀ args w,(callFunc gf args).run P w=.ok (.enter gf args) w)
  {encs:α->Array Value} {zs:List α} {Kp:World->World->Prop} (hseq:Through (n - 1) P gf lb encs zs Kp w)
  (hKt:∀ {A B C:World},Kp A B->Kp B C->Kp A C) (hKb:∀ (W:World) (l:Nat) (o o':Obj),w.heap.size<=l->W.heap[l]?=some o->o.isCells=false->o.isWalk=false->Kp W (W.putObj l o')) (hps:∀ x,(encs x).size=ps.size)
  (I:List α->World->Prop) (Ix:Code->List α->World->Prop) (hI:OwnFrom w.heap.size I) (hIx:∀ c,OwnFrom w.heap.size (Ix c)) (h0:I [] w) (Ax:α->Act->World->Prop) (hAx:∀ x a',OwnFrom w.heap.size (fun (_:Unit) W=>Ax x a' W))
  (hassign:∀ (l:Nat) (pre:List α) (x:α) (W:World) (K:Act->World->Prop),I pre W->x ∈ zs->(∀ a' W',KeepsFrom w.heap.size W W'->Kp W W'->I pre W'->Ax x a' W'->K a' W') ->
   assign.wpIn (Fence.wide.inRound l) (n - 1 - 1) P (Exit.then K (fun _ _ _=>False)) { tmps:=(ps.zip (encs x)).foldl (fun t (p,v)=>t.setIfInBounds p v) a.tmps,defers:=[] } W)
  (hbody:∀ (l:Nat) (pre:List α) (x:α) (a':Act) (W:World),I pre W->Ax x a' W->pre.length < zs.length->x ∈ zs->body.wpIn (Fence.wide.inRound l) (n - 1 - 1) P (ownPostG w.heap.size Kp I Ix (pre ++ [x]) W) a' W)
  (hdone:∀ (D:Nat) (W:World),w.heap.size<=D->I zs W->W.heap[D]?=some (.deferred (some []))->Q .normal { a with defers:={ target:=.collected D,args:=#[] } :: a.defers } W)
  (hstop:∀ (D:Nat) (c:Code) (k:Nat) (W:World),w.heap.size<=D->k<=zs.length->Ix c (zs.take k) W->W.heap[D]?=some (.deferred (some []))->c.wpIn Fence.wide n P Q { a with defers:={ target:=.collected D,args:=#[] } :: a.defers } W) :
  (Code.rangeFunc g ps assign body).wpIn Fence.wide n P Q a w:=by
 refine wpIn_rangeFunc_ownH (α:={ x // x ∈ zs }) (F:=Fence.wide) rfl h1 hg trivial eg hseq (fun h k=>hKt h k) hKb (Below.refl _ _) (fun x=>hps x.1)
  (fun pre W=>I (pre.map (·.1)) W) (fun c pre W=>Ix c (pre.map (·.1)) W) (fun s=>hI (s.map (·.1))) (fun c s=>hIx c (s.map (·.1))) h0 (fun x a' W=>Ax x.1 a' W) (fun x a'=>hAx x.1 a') ?_ ?_ ?_ ?_
 ·intro l pre x W K hi hK
  exact hassign l _ x.1 W K hi x.2 hK
 ·intro l pre x a' W _ _ hi hx hlt
  have:=hbody l (pre.map (·.1)) x.1 a' W hi hx (by rw [List.length_map];exact hlt) x.2
  refine wpIn_mono this ?_
  intro e a3 W3 hp
  refine zqY (fun y:{ x // x ∈ zs }=>y.1) e a3 W3 ?_
  rw [List.map_append];exact hp
 ·intro D xs W hD hS hi hK
  refine hdone D W hD ?_ hK
  rw [<- hS];exact hi
 ·intro D c pre W hD ⟨k,hk,hp⟩ hi hK
  refine hstop D c k W hD hk ?_ hK
  rw [<- hp];exact hi
def zAC (x:ColB × CellB):Array Value:=#[.agg #[.string x.1.1,.int .i64 x.1.2],.agg #[.int .u64 (x.2.1:Int),.string x.2.2]]
theorem zy5 (n:Nat) (hn:1<=n) (l b1 b2:Nat) (v1 v2:Value) (cs:List ColB) (rs:List CellB) (hlen:cs.length=rs.length) (w0:World) (J Jx:List (ColB × CellB)->World->Prop) (B:Nat) (hJ:AbidesFrom B J)
  (h1:∀ W,Below w0.heap.size w0 W->RdC W v1 cs) (h2:∀ W,Below w0.heap.size w0 W->RdE W v2 rs)
  (hY:∀ pre x W,J pre W->pre.length < cs.length->x ∈ cs.zip rs->YieldAt Fence.wide (n - 1) prog l (zAC x) W fun e W' =>
   (e=.returned (.bool true)/\J (pre ++ [x]) W'/\Only (Mine w0.heap.size b1 b2) W W')∨(e=.returned (.bool false)/\Jx (pre ++ [x]) W'))
  (W:World) (hW:Below w0.heap.size w0 W) (hc1:W.cell? ⟨b1,0,none⟩=some v1) (hc2:W.cell? ⟨b2,0,none⟩=some v2) (h0:J [] W) :
  CallsIn Fence.wide n prog 226 #[.func (.yield l) #[] #[],.pointer (some ⟨b1,0,none⟩),.pointer (some ⟨b2,0,none⟩)] W fun e W'=>(∃ v,e=.returned v) /\
   ((∃ ys,ys=cs.zip rs/\J ys W')∨(∃ pre,(∃ k,k<=cs.length/\pre=(cs.zip rs).take k)/\Jx pre W')):=by
 have hws:=hW.size
 have hl1:=(h1 W hW).len
 have hsm:=(h1 W hW).small
 obtain ⟨m,hm⟩:=nm_ cs.length
 rw [<- hm] at hl1 hsm
 have HM:=h_ hm
 have HB1:b1 < W.heap.size:=World.block_lt_of_cell? W _ hc1
 have HB2:b2 < W.heap.size:=World.block_lt_of_cell? W _ hc2
 have HW:=h_ hW
 have HC1:=h_ hc1
 have HC2:=h_ hc2
 have H1:=h_ h1
 have H2:=h_ h2
 have HJ:=h_ hJ
 have HY:=h_ hY
 have HL:=h_ hlen
 have HO:=h_ (Only.refl (Mine w0.heap.size b1 b2) W)
 have H0:=h_ (show J ((cs.zip rs).take 0) W from h0)
 clear hm hW hc2 h1 h2 hJ hY hlen h0
 refine callsIn_of_wp func226 rfl trivial ?_ rfl
 simp only [ntmps226,List.size_toArray,List.length_cons,List.length_nil,Nat.reduceAdd,Nat.reduceSub,Array.replicate_succ,Array.replicate_zero,List.push_toArray,List.append_toArray,List.nil_append,List.cons_append]
 gi_wp2
 gi_loopw [7] (fun i wr=>∃ k:Nat,k<=m/\i=.int .i64 k/\Hid (J ((cs.zip rs).take k) wr)/\Hid (Only (Mine w0.heap.size b1 b2) W wr))
  (fun i _=>m - (intOf i).toNat)
 case atStart=>exact ⟨0,Nat.zero_le _,rfl,H0,HO⟩
 case round =>
  clear H0 HO hc1
  obtain ⟨k,hk,rfl,HJs,HO⟩:=hrel
  by_cases hlt:k < m
  ·have hB:Below w0.heap.size w0 wr:=HW.trans (zlX HO.o hws)
   have k1:k < cs.length:=by rw [<- HM.o];exact hlt
   have k2:k < rs.length:=by rw [<- HL.o];exact k1
   obtain ⟨ba,oa,hia,hca,_⟩:=(H1.o wr hB).get k1
   obtain ⟨bb,ob,hib,hcb,_⟩:=(H2.o wr hB).get k2
   obtain ⟨ca0,ca1⟩:=hca _ (H1.o wr hB)
   obtain ⟨cb0,cb1⟩:=hcb _ (H2.o wr hB)
   have q1:wr.cell? ⟨b1,0,none⟩=some v1:=(World.cell?_of_block (HO.block b1 HB1 (fun h=>h.2.1 rfl))).trans HC1.o
   have q2:wr.cell? ⟨b2,0,none⟩=some v2:=(World.cell?_of_block (HO.block b2 HB2 (fun h=>h.2.2 rfl))).trans HC2.o
   have HZ:=h_ (zq5 cs rs HL.o k k1)
   have hyy:=HY.o _ (cs.getD k default,rs.getD k default) wr.drew (zl0 HJ.o HJs.o) (by rw [List.length_take,List.length_zip];omega) (zuP cs rs HL.o k k1)
   rcases hga:cs.getD k default with ⟨xa,ya⟩
   rcases hgb:rs.getD k default with ⟨xb,yb⟩
   rw [hga] at ca0 ca1 HZ hyy
   rw [hgb] at cb0 cb1 HZ hyy
   clear hga hgb
   obtain ⟨fn,tmps,assign,body,hy,hR⟩:=hyy
   unfold zAC at hy
   dsimp only at hy ca0 ca1 cb0 cb1
   have HR:=h_ (hR.mono (R':=fun e W'=>∃ b,e=.returned (.bool b)/\Hid ((b=true/\J ((cs.zip rs).take (k + 1)) W'/\Only (Mine w0.heap.size b1 b2) wr.drew W')∨(b=false/\Jx ((cs.zip rs).take (k + 1)) W'))) (by
    rintro e W' (⟨rfl,h5,h6⟩ | ⟨rfl,h5⟩)
    ·exact ⟨true,rfl,h_ (.inl ⟨rfl,by rw [HZ.o];exact h5,h6⟩)⟩
    ·exact ⟨false,rfl,h_ (.inr ⟨rfl,by rw [HZ.o];exact h5⟩)⟩))
   clear hR hca hcb k1 k2 hB HJs
   have hmx:prog.follows .mixedOrders=true:=by kernel_rfl
   gi_wp2
   gi_region_with ((refine HR.mono ?_;rintro e W3 ⟨b,rfl,hres⟩))
   all_goals
    clear HR ca0 ca1 cb0 cb1 q1 q2 hia hib hy hmx
    rcases hres.o with ⟨rfl,hJ3,hO3⟩ | ⟨rfl,hJ3⟩
    ·have HJ3:=h_ hJ3
     have HO3:=h_ (HO.drew.trans hO3)
     clear hres hJ3 hO3
     gi_wp2
     go_roundw
     case rel=>exact ⟨k + 1,by omega,by go_num,HJ3,HO3⟩
     case measure=>simp [intOf];omega
    ·have HJ3:=h_ hJ3
     clear hres hJ3
     gi_wp2
     refine bodyPost_ret (results_none rfl _ _ _) rfl ?_
     exact ⟨⟨_,rfl⟩,.inr ⟨_,⟨k + 1,by rw [<- HM.o];omega,rfl⟩,HJ3.o⟩⟩
  ·obtain rfl:k=m:=by omega
   have HJe:=h_ (show J (cs.zip rs) wr from by
    have:=HJs.o
    rwa [List.take_of_length_le (by rw [List.length_zip,<- HL.o,<- HM.o];omega)] at this)
   clear hlt
   gi_wp2
   go_end0
   exact ⟨⟨_,rfl⟩,.inl ⟨_,rfl,HJe.o⟩⟩
theorem zlB (n:Nat) (hn:1<=n) (b1 b2:Nat) (v1 v2:Value) (cs:List ColB) (rs:List CellB) (hlen:cs.length=rs.length) (w0:World)
  (h1:∀ W,Below w0.heap.size w0 W->RdC W v1 cs) (h2:∀ W,Below w0.heap.size w0 W->RdE W v2 rs)
  (w:World) (hw:Below w0.heap.size w0 w) (hc1:w.cell? ⟨b1,0,none⟩=some v1) (hc2:w.cell? ⟨b2,0,none⟩=some v2) :
  Through n prog 226 #[.pointer (some ⟨b1,0,none⟩),.pointer (some ⟨b2,0,none⟩)] zAC (cs.zip rs) (Only (Mine w0.heap.size b1 b2)) w:=by
 intro l J Jx W hW hJ hJx hY h0;have hb1:b1 < w.heap.size:=World.block_lt_of_cell? w _ hc1;have hb2:b2 < w.heap.size:=World.block_lt_of_cell? w _ hc2;have hz:(cs.zip rs).length=cs.length:=by rw [List.length_zip];omega
 refine (zy5 n hn l b1 b2 v1 v2 cs rs hlen w0 (fun pre W=>∃ p:List { x // x ∈ cs.zip rs },p.map (·.1)=pre/\J p W) (fun pre W=>∃ p:List { x // x ∈ cs.zip rs },p.map (·.1)=pre/\Jx p W) W.heap.size
  ?_ h1 h2 ?_ W (hw.trans (hW.mono hw.size)) ((hW.cell (p:=⟨b1,0,none⟩) hb1).trans hc1) ((hW.cell (p:=⟨b2,0,none⟩) hb2).trans hc2) ⟨[],rfl,h0⟩).mono ?_
 ·rintro s A B row ⟨p,hp,hj⟩ hg hr;exact ⟨p,hp,hJ p A B row hj hg hr⟩
 ·rintro pre x W1 ⟨p,hp,hj⟩ hlt hx
  obtain ⟨fn,tmps,assign,body,hy,hR⟩:=hY p ⟨x,hx⟩ W1 hj (by
   have h9:=congrArg List.length hp
   rw [List.length_map] at h9
   omega)
  refine ⟨fn,tmps,assign,body,hy,hR.mono ?_⟩;rintro e W' (⟨he,h5,h6⟩ | ⟨he,h5⟩)
  ·exact .inl ⟨he,⟨p ++ [⟨x,hx⟩],by rw [List.map_append,hp];rfl,h5⟩,h6⟩
  exact .inr ⟨he,⟨p ++ [⟨x,hx⟩],by rw [List.map_append,hp];rfl,h5⟩⟩
 rintro e W' ⟨he,⟨ys,rfl,p,hp,hj⟩ | ⟨pre,⟨k,hk,rfl⟩,p,hp,hj⟩⟩
 ·exact ⟨he,.inl ⟨p,hp,hj⟩⟩
 exact ⟨he,.inr ⟨p,⟨k,by omega,hp⟩,hj⟩⟩
theorem zrS (v1 v2:Value) (cs:List ColB) (rs:List CellB) (w:World) (h1:RdC w v1 cs) (h2:RdE w v2 rs) :
  Calls prog 179 #[v1,v2] w fun e w'=>e=.returned (.func (.func 226) #[] #[.pointer (some ⟨w.heap.size,0,none⟩),.pointer (some ⟨w.heap.size + 1,0,none⟩)]) /\
   w'=(w.alloc (.cells #[v1] 24)).alloc (.cells #[v2] 84):=by
 obtain ⟨ao,cap,rfl,_⟩:=RdG.shape h1;obtain ⟨ap,caq,rfl,_⟩:=RdG.shape h2;generalize (cs.map colV).length=n1;generalize (rs.map cellVs).length=n2;clear h1 h2;go_enter func179,ntmps179;go_wp2;go_ret;exact ⟨rfl,rfl⟩
def zxK (x:CellB × CellB):Array Value:=#[.agg #[.int .u64 (x.1.1:Int),.string x.1.2],.agg #[.int .u64 (x.2.1:Int),.string x.2.2]]
theorem zy4 (n:Nat) (hn:1<=n) (l b1 b2:Nat) (v1 v2:Value) (cs:List CellB) (rs:List CellB) (hlen:cs.length=rs.length) (w0:World) (J Jx:List (CellB × CellB)->World->Prop) (B:Nat) (hJ:AbidesFrom B J)
  (h1:∀ W,Below w0.heap.size w0 W->RdE W v1 cs) (h2:∀ W,Below w0.heap.size w0 W->RdE W v2 rs)
  (hY:∀ pre x W,J pre W->pre.length < cs.length->x ∈ cs.zip rs->YieldAt Fence.wide (n - 1) prog l (zxK x) W fun e W' =>
   (e=.returned (.bool true)/\J (pre ++ [x]) W'/\Only (Mine w0.heap.size b1 b2) W W')∨(e=.returned (.bool false)/\Jx (pre ++ [x]) W'))
  (W:World) (hW:Below w0.heap.size w0 W) (hc1:W.cell? ⟨b1,0,none⟩=some v1) (hc2:W.cell? ⟨b2,0,none⟩=some v2) (h0:J [] W) :
  CallsIn Fence.wide n prog 120 #[.func (.yield l) #[] #[],.pointer (some ⟨b1,0,none⟩),.pointer (some ⟨b2,0,none⟩)] W fun e W'=>(∃ v,e=.returned v) /\
   ((∃ ys,ys=cs.zip rs/\J ys W')∨(∃ pre,(∃ k,k<=cs.length/\pre=(cs.zip rs).take k)/\Jx pre W')):=by
 have hws:=hW.size
 have hl1:=(h1 W hW).len
 have hsm:=(h1 W hW).small
 obtain ⟨m,hm⟩:=nm_ cs.length
 rw [<- hm] at hl1 hsm
 have HM:=h_ hm
 have HB1:b1 < W.heap.size:=World.block_lt_of_cell? W _ hc1
 have HB2:b2 < W.heap.size:=World.block_lt_of_cell? W _ hc2
 have HW:=h_ hW
 have HC1:=h_ hc1
 have HC2:=h_ hc2
 have H1:=h_ h1
 have H2:=h_ h2
 have HJ:=h_ hJ
 have HY:=h_ hY
 have HL:=h_ hlen
 have HO:=h_ (Only.refl (Mine w0.heap.size b1 b2) W)
 have H0:=h_ (show J ((cs.zip rs).take 0) W from h0)
 clear hm hW hc2 h1 h2 hJ hY hlen h0
 refine callsIn_of_wp func120 rfl trivial ?_ rfl
 simp only [ntmps120,List.size_toArray,List.length_cons,List.length_nil,Nat.reduceAdd,Nat.reduceSub,Array.replicate_succ,Array.replicate_zero,List.push_toArray,List.append_toArray,List.nil_append,List.cons_append]
 gi_wp2
 gi_loopw [7] (fun i wr=>∃ k:Nat,k<=m/\i=.int .i64 k/\Hid (J ((cs.zip rs).take k) wr)/\Hid (Only (Mine w0.heap.size b1 b2) W wr))
  (fun i _=>m - (intOf i).toNat)
 case atStart=>exact ⟨0,Nat.zero_le _,rfl,H0,HO⟩
 case round =>
  clear H0 HO hc1
  obtain ⟨k,hk,rfl,HJs,HO⟩:=hrel
  by_cases hlt:k < m
  ·have hB:Below w0.heap.size w0 wr:=HW.trans (zlX HO.o hws)
   have k1:k < cs.length:=by rw [<- HM.o];exact hlt
   have k2:k < rs.length:=by rw [<- HL.o];exact k1
   obtain ⟨ba,oa,hia,hca,_⟩:=(H1.o wr hB).get k1
   obtain ⟨bb,ob,hib,hcb,_⟩:=(H2.o wr hB).get k2
   obtain ⟨ca0,ca1⟩:=hca _ (H1.o wr hB)
   obtain ⟨cb0,cb1⟩:=hcb _ (H2.o wr hB)
   have q1:wr.cell? ⟨b1,0,none⟩=some v1:=(World.cell?_of_block (HO.block b1 HB1 (fun h=>h.2.1 rfl))).trans HC1.o
   have q2:wr.cell? ⟨b2,0,none⟩=some v2:=(World.cell?_of_block (HO.block b2 HB2 (fun h=>h.2.2 rfl))).trans HC2.o
   have HZ:=h_ (zq5 cs rs HL.o k k1)
   have hyy:=HY.o _ (cs.getD k default,rs.getD k default) wr.drew (zl0 HJ.o HJs.o) (by rw [List.length_take,List.length_zip];omega) (zuP cs rs HL.o k k1)
   rcases hga:cs.getD k default with ⟨xa,ya⟩
   rcases hgb:rs.getD k default with ⟨xb,yb⟩
   rw [hga] at ca0 ca1 HZ hyy
   rw [hgb] at cb0 cb1 HZ hyy
   clear hga hgb
   obtain ⟨fn,tmps,assign,body,hy,hR⟩:=hyy
   unfold zxK at hy
   dsimp only at hy ca0 ca1 cb0 cb1
   have HR:=h_ (hR.mono (R':=fun e W'=>∃ b,e=.returned (.bool b)/\Hid ((b=true/\J ((cs.zip rs).take (k + 1)) W'/\Only (Mine w0.heap.size b1 b2) wr.drew W')∨(b=false/\Jx ((cs.zip rs).take (k + 1)) W'))) (by
    rintro e W' (⟨rfl,h5,h6⟩ | ⟨rfl,h5⟩)
    ·exact ⟨true,rfl,h_ (.inl ⟨rfl,by rw [HZ.o];exact h5,h6⟩)⟩
    ·exact ⟨false,rfl,h_ (.inr ⟨rfl,by rw [HZ.o];exact h5⟩)⟩))
   clear hR hca hcb k1 k2 hB HJs
   have hmx:prog.follows .mixedOrders=true:=by kernel_rfl
   gi_wp2
   gi_region_with ((refine HR.mono ?_;rintro e W3 ⟨b,rfl,hres⟩))
   all_goals
    clear HR ca0 ca1 cb0 cb1 q1 q2 hia hib hy hmx
    rcases hres.o with ⟨rfl,hJ3,hO3⟩ | ⟨rfl,hJ3⟩
    ·have HJ3:=h_ hJ3
     have HO3:=h_ (HO.drew.trans hO3)
     clear hres hJ3 hO3
     gi_wp2
     go_roundw
     case rel=>exact ⟨k + 1,by omega,by go_num,HJ3,HO3⟩
     case measure=>simp [intOf];omega
    ·have HJ3:=h_ hJ3
     clear hres hJ3
     gi_wp2
     refine bodyPost_ret (results_none rfl _ _ _) rfl ?_
     exact ⟨⟨_,rfl⟩,.inr ⟨_,⟨k + 1,by rw [<- HM.o];omega,rfl⟩,HJ3.o⟩⟩
  ·obtain rfl:k=m:=by omega
   have HJe:=h_ (show J (cs.zip rs) wr from by
    have:=HJs.o
    rwa [List.take_of_length_le (by rw [List.length_zip,<- HL.o,<- HM.o];omega)] at this)
   clear hlt
   gi_wp2
   go_end0
   exact ⟨⟨_,rfl⟩,.inl ⟨_,rfl,HJe.o⟩⟩
theorem zeT (n:Nat) (hn:1<=n) (b1 b2:Nat) (v1 v2:Value) (cs:List CellB) (rs:List CellB) (hlen:cs.length=rs.length) (w0:World)
  (h1:∀ W,Below w0.heap.size w0 W->RdE W v1 cs) (h2:∀ W,Below w0.heap.size w0 W->RdE W v2 rs)
  (w:World) (hw:Below w0.heap.size w0 w) (hc1:w.cell? ⟨b1,0,none⟩=some v1) (hc2:w.cell? ⟨b2,0,none⟩=some v2) :
  Through n prog 120 #[.pointer (some ⟨b1,0,none⟩),.pointer (some ⟨b2,0,none⟩)] zxK (cs.zip rs) (Only (Mine w0.heap.size b1 b2)) w:=by
 intro l J Jx W hW hJ hJx hY h0;have hb1:b1 < w.heap.size:=World.block_lt_of_cell? w _ hc1;have hb2:b2 < w.heap.size:=World.block_lt_of_cell? w _ hc2;have hz:(cs.zip rs).length=cs.length:=by rw [List.length_zip];omega
 refine (zy4 n hn l b1 b2 v1 v2 cs rs hlen w0 (fun pre W=>∃ p:List { x // x ∈ cs.zip rs },p.map (·.1)=pre/\J p W) (fun pre W=>∃ p:List { x // x ∈ cs.zip rs },p.map (·.1)=pre/\Jx p W) W.heap.size
  ?_ h1 h2 ?_ W (hw.trans (hW.mono hw.size)) ((hW.cell (p:=⟨b1,0,none⟩) hb1).trans hc1) ((hW.cell (p:=⟨b2,0,none⟩) hb2).trans hc2) ⟨[],rfl,h0⟩).mono ?_
 ·rintro s A B row ⟨p,hp,hj⟩ hg hr;exact ⟨p,hp,hJ p A B row hj hg hr⟩
 ·rintro pre x W1 ⟨p,hp,hj⟩ hlt hx
  obtain ⟨fn,tmps,assign,body,hy,hR⟩:=hY p ⟨x,hx⟩ W1 hj (by
   have h9:=congrArg List.length hp
   rw [List.length_map] at h9
   omega)
  refine ⟨fn,tmps,assign,body,hy,hR.mono ?_⟩;rintro e W' (⟨he,h5,h6⟩ | ⟨he,h5⟩)
  ·exact .inl ⟨he,⟨p ++ [⟨x,hx⟩],by rw [List.map_append,hp];rfl,h5⟩,h6⟩
  exact .inr ⟨he,⟨p ++ [⟨x,hx⟩],by rw [List.map_append,hp];rfl,h5⟩⟩
 rintro e W' ⟨he,⟨ys,rfl,p,hp,hj⟩ | ⟨pre,⟨k,hk,rfl⟩,p,hp,hj⟩⟩
 ·exact ⟨he,.inl ⟨p,hp,hj⟩⟩
 exact ⟨he,.inr ⟨p,⟨k,by omega,hp⟩,hj⟩⟩
theorem zkV (v1 v2:Value) (cs:List CellB) (rs:List CellB) (w:World) (h1:RdE w v1 cs) (h2:RdE w v2 rs) :
  Calls prog 94 #[v1,v2] w fun e w'=>e=.returned (.func (.func 120) #[] #[.pointer (some ⟨w.heap.size,0,none⟩),.pointer (some ⟨w.heap.size + 1,0,none⟩)]) /\
   w'=(w.alloc (.cells #[v1] 84)).alloc (.cells #[v2] 84):=by
 obtain ⟨ao,cap,rfl,_⟩:=RdG.shape h1;obtain ⟨ap,caq,rfl,_⟩:=RdG.shape h2;generalize (cs.map cellVs).length=n1;generalize (rs.map cellVs).length=n2;clear h1 h2;go_enter func94,ntmps94;go_wp2;go_ret;exact ⟨rfl,rfl⟩
