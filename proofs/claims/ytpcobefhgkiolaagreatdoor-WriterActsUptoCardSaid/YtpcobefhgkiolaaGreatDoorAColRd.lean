/- -/
import Derived.Test.YtpcobefhgkiolaaGreatDoorAAppFull
import Derived.Test.YtpcobefhgkiolaaGreatDoorAZProgA
import Derived.Test.YtpcobefhgkiolaaGreatDoorAZPure
import Derived.Test.YtpcobefhgkiolaaGreatDoorABoth
import Derived.Test.YtpcobefhgkiolaaGreatDoorAZDefs
import Derived.Lib.LaidTab
import Derived.LaidLaws
import Derived.Deep.Strs
import Derived.Test.YtpcobefhgkiolaaGreatDoorAColTk
import Derived.Test.YtpcobefhgkiolaaGreatDoorACell
import Derived.Test.YtpcobefhgkiolaaGreatDoorAColCw
import Derived.Test.YtpcobefhgkiolaaGreatDoorARdr
set_option linter.unusedVariables false
set_option linter.unusedSimpArgs false
set_option maxRecDepth 1000000
namespace Go.Proofs.YtpcobefhgkiolaaGreatDoor
open Go.RowKit Go.Shelf
theorem RdP.lit12 {w:World} {v:Value} {ps:List PairB} (h:RdP w v ps):∃ ao n cap,v=.slice ao n cap:=by
 obtain ⟨ts,_,h,_⟩:=h
 obtain ⟨ao,cap,e,_⟩:=RdG.shape h
 exact ⟨ao,_,cap,e⟩
theorem RdC.lit12 {w:World} {v:Value} {cs:List ColB} (h:RdC w v cs):∃ ao n cap,v=.slice ao n cap:=by
 obtain ⟨ao,cap,e,_⟩:=RdG.shape h
 exact ⟨ao,_,cap,e⟩
def Frs (w:World):Prop:=w.cell? ⟨0,0,none⟩=some (.int .i64 2)∧w.cell? ⟨0,1,none⟩=some (.int .i64 1)
theorem Frs.later {w w':World} (h:Frs w) (hb:Below w.heap.size w w'):Frs w':=⟨keep_cell hb h.1,keep_cell hb h.2⟩
def RdN (w:World) (v:Value) (x:EntB):Prop:=∃ pv,v=.agg #[.int .i64 x.1,.int .i64 x.2.1,pv]∧RdP w pv x.2.2
theorem entry_isNumber (x:Int) (w:World):Calls Tryz.prog 96 #[.int .i64 x] w fun e w'=>e=.returned (.bool (!decide (x < 0∨281474976710656 < x)))∧w=w':=by
 by_cases h1:x < 0
 ·have d1:decide (x ≥ 0)=false:=decide_eq_false (by omega)
  have HE:=h_ (show (!decide (x < 0∨281474976710656 < x))=false from by simp;omega)
  clear h1
  go_enter Tryz.func96,Tryz.ntmps96
  go_wp2
  go_ret
  exact ⟨by rw [HE.out];rfl,rfl⟩
 ·have d1:decide (x ≥ 0)=true:=decide_eq_true (by omega)
  by_cases h2:281474976710656 < x
  ·have d2:decide (x≤281474976710656)=false:=decide_eq_false (by omega)
   have HE:=h_ (show (!decide (x < 0∨281474976710656 < x))=false from by simp;omega)
   clear h1 h2
   go_enter Tryz.func96,Tryz.ntmps96
   go_wp2
   go_ret
   exact ⟨by rw [HE.out];rfl,rfl⟩
  ·have d2:decide (x≤281474976710656)=true:=decide_eq_true (by omega)
   have HE:=h_ (show (!decide (x < 0∨281474976710656 < x))=true from by simp;omega)
   clear h1 h2
   go_enter Tryz.func96,Tryz.ntmps96
   go_wp2
   go_ret
   exact ⟨by rw [HE.out];rfl,rfl⟩
theorem entry_next (s k:Int) (hs:0≤s∧s≤281474976710656) (w:World):Calls Tryz.prog 104 #[.int .i64 s,.int .i64 k] w fun e w'=>e=.returned (.int .i64 (if k=1 then s else s + 1))∧w=w':=by
 by_cases h1:k=1
 ·subst h1
  rw [if_pos rfl]
  clear hs
  go_enter Tryz.func104,Tryz.ntmps104
  go_wp2
  go_ret
  exact ⟨rfl,rfl⟩
 ·have d1:(k == 1)=false:=by rw [beq_eq_false_iff_ne];exact h1
  rw [if_neg h1]
  clear h1
  go_enter Tryz.func104,Tryz.ntmps104
  go_wp2
  go_ret
  exact ⟨rfl,rfl⟩
theorem new_one12 (w:World) (o:Obj):(w.alloc o).heap[w.heap.size]?=some o∧Below w.heap.size w (w.alloc o):=⟨heap_alloc_new _ _,(Below.refl _ _).alloc l_ _⟩
def Ebox (w:World) (b:Nat) (kind seq:Int) (pv:Value):Prop:=w.heap[b]?=some (.cells #[.int .i64 kind,.int .i64 seq,pv] 70 (0,0))
theorem Ebox.cells {w:World} {b:Nat} {kind seq:Int} {pv:Value} (h:Ebox w b kind seq pv):w.cell? ⟨b,0,none⟩=some (.int .i64 kind)∧w.cell? ⟨b,1,none⟩=some (.int .i64 seq)∧w.cell? ⟨b,2,none⟩=some pv :=
 ⟨cell_of_row _ _ 0 _ _ _ h,cell_of_row _ _ 1 _ _ _ h,cell_of_row _ _ 2 _ _ _ h⟩
theorem Ebox.later {w w':World} {b:Nat} {kind seq:Int} {pv:Value} (h:Ebox w b kind seq pv) (hb:Below w.heap.size w w'):Ebox w' b kind seq pv :=
 (hb.block b (Array.getElem?_eq_some_iff.1 h).1).trans h
set_option maxHeartbeats 4000000 in
theorem entry_Check (sv ev:Value) (cs:List ColB) (x:EntB) (w:World) (hR:RdC w sv cs) (hE:RdN w ev x) (hC:CS cs) (hX:EnO x) (hT:Tabs w) :
  Calls Tryz.prog 64 #[sv,ev] w fun e w'=>e=.returned (.int .i64 (entE cs x:Nat))∧Below w.heap.size w w':=by
 obtain ⟨kind,seq,ps⟩:=x
 obtain ⟨pv,rfl,hP⟩:=hE
 obtain ⟨hk,hs,hO⟩:=hX
 dsimp only at hP hk hs hO ⊢
 obtain ⟨ao,no,co,rfl⟩:=hP.lit12
 obtain ⟨N1,N2⟩:=new_one12 w (.cells #[.int .i64 kind,.int .i64 seq,.slice ao no co] 70)
 obtain ⟨w0,hw0⟩:∃ w0,w0=w.alloc (.cells #[.int .i64 kind,.int .i64 seq,.slice ao no co] 70):=⟨_,rfl⟩
 rw [← hw0] at N1 N2
 have SC:=h_ (schema_Check sv cs w0 (hR.later N2 l_) hC (hT.later N2))
 have ZC:=h_ (fun wz (hz:Below w.heap.size w wz)=>zset_Check sv (.slice ao no co) cs ps wz (hR.later hz l_) (hP.later hz l_) hC hO (hT.later hz))
 obtain ⟨g,hg⟩:∃ g,g=w.heap.size:=⟨_,rfl⟩
 rw [← hg] at N1
 have HE0:=h_ (show Ebox w0 g kind seq (.slice ao no co) from N1)
 have HB0:=h_ N2
 have HW0:=h_ hw0
 have HG:=h_ hg
 obtain ⟨E,hE⟩:∃ E,E=errS (colsL cs):=⟨_,rfl⟩
 obtain ⟨R,hRR⟩:∃ R,R=entE cs (kind,seq,ps):=⟨_,rfl⟩
 rw [← hE] at SC
 rw [← hRR]
 unfold entE at hRR
 dsimp only at hRR
 rw [← hE] at hRR
 clear hR hP hC hO hT N1 N2 hw0 hg hE
 by_cases hE0:E=0
 ·subst hE0
  rw [if_neg (by simp)] at hRR
  by_cases h1:kind < 0∨1 < kind
  ·rw [if_pos h1] at hRR
   subst hRR
   have hd:(decide (kind < 0)=true)∨(decide (kind < 0)=false∧decide (kind ≥ 2)=true):=by
    by_cases h:kind < 0
    ·exact .inl (decide_eq_true h)
    ·exact .inr ⟨decide_eq_false h,decide_eq_true (by omega)⟩
   clear h1 ZC
   rcases hd with d1 | ⟨d1,d2⟩
   all_goals (
    go_enter Tryz.func64,Tryz.ntmps64
    go_wp2_with fail
    rw [← HW0.out,← HG.out]
    refine SC.out.mono ?_
    rintro e w1 ⟨rfl,hb⟩
    have HB1:=h_ (HB0.out.trans (hb.mono HB0.out.size))
    obtain ⟨c0,c1,c2⟩:=(HE0.out.later hb).cells
    clear hb SC HE0
    go_wp2
    go_ret
    exact ⟨rfl,HB1.out⟩)
  ·rw [if_neg h1] at hRR
   have d1:decide (kind < 0)=false:=decide_eq_false (by omega)
   have d2:decide (kind ≥ 2)=false:=decide_eq_false (by omega)
   clear h1
   by_cases h2:seq < 0∨281474976710656 < seq
   ·rw [if_pos h2] at hRR
    subst hRR
    have IN:=h_ (fun wz=>entry_isNumber seq wz)
    rw [decide_eq_true h2] at IN
    clear h2 ZC
    go_enter Tryz.func64,Tryz.ntmps64
    go_wp2_with fail
    rw [← HW0.out,← HG.out]
    refine SC.out.mono ?_
    rintro e w1 ⟨rfl,hb⟩
    have HB1:=h_ (HB0.out.trans (hb.mono HB0.out.size))
    obtain ⟨c0,c1,c2⟩:=(HE0.out.later hb).cells
    clear hb SC HE0
    go_wp2_with fail
    refine (IN.out w1).mono ?_
    rintro e w2 ⟨rfl,rfl⟩
    go_wp2
    go_ret
    exact ⟨rfl,HB1.out⟩
   ·rw [if_neg h2] at hRR
    have IN:=h_ (fun wz=>entry_isNumber seq wz)
    rw [decide_eq_false h2] at IN
    rw [← hRR] at ZC
    clear h2 hRR
    go_enter Tryz.func64,Tryz.ntmps64
    go_wp2_with fail
    rw [← HW0.out,← HG.out]
    refine SC.out.mono ?_
    rintro e w1 ⟨rfl,hb⟩
    have HB1:=h_ (HB0.out.trans (hb.mono HB0.out.size))
    obtain ⟨c0,c1,c2⟩:=(HE0.out.later hb).cells
    clear hb SC HE0
    go_wp2_with fail
    refine (IN.out w1).mono ?_
    rintro e w2 ⟨rfl,rfl⟩
    go_wp2_with fail
    refine (ZC.out w1 HB1.out).mono ?_
    rintro e w3 ⟨rfl,hb⟩
    have HB3:=h_ (HB1.out.trans (hb.mono HB1.out.size))
    clear hb
    go_wp2
    go_ret
    exact ⟨rfl,HB3.out⟩
 ·rw [if_pos hE0] at hRR
  subst hRR
  have q:((R:Int) != 0)=true:=by rw [bne_iff_ne];omega
  clear hE0 ZC
  go_enter Tryz.func64,Tryz.ntmps64
  go_wp2_with fail
  rw [← HW0.out,← HG.out]
  refine SC.out.mono ?_
  rintro e w1 ⟨rfl,hb⟩
  have HB1:=h_ (HB0.out.trans (hb.mono HB0.out.size))
  clear hb SC HE0
  go_wp2
  go_ret
  exact ⟨rfl,HB1.out⟩
end Go.Proofs.YtpcobefhgkiolaaGreatDoor


/- -/
namespace Go.Proofs.YtpcobefhgkiolaaGreatDoor
open Go.ChangeShapes Go.WideShapes Go.ChangeAt Go.RowKit Go.Shelf Go.Deep
theorem frames_of {W : World} (h : Lib.VarReads Tryz.prog W "deckle/entry.frames" Rows.laid_deckle_entry_frames) : Frs W := by
 have e:(Rows.laid_deckle_entry_frames:DataW Unit)=Lib.tabData .i64 [2,1]:=by kernel_rfl
 rw [e] at h
 obtain ⟨g',t',cs,fuel,p,hg',ht',hvar,hd⟩:=h
 have hg : Tryz.prog.globalNamed "deckle/entry.frames" = some 0 := by kernel_rfl
 have hty:(Tryz.prog.globals[0]?).map (·.type)=some 125:=by kernel_rfl
 obtain rfl:=Option.some.inj (hg.symm.trans hg')
 obtain rfl:=Option.some.inj (hty.symm.trans ht')
 have hT : Lib.TabIs Tryz.prog W "deckle/entry.frames" .i64 [2, 1] := by
  unfold Lib.TabIs
  rw [hvar,← Lib.cells_of_tab (n:=2) (e:=3) (by kernel_rfl) (by kernel_rfl) (by kernel_rfl) (by kernel_rfl) hd]
 exact ⟨hT.cell (g:=0) (by kernel_rfl) 0 (by decide),hT.cell (g:=0) (by kernel_rfl) 1 (by decide)⟩
section
variable {H:Type} {enc:TypeId × Value→H} {W:World}
theorem pairss_open {base:Nat} {v:Value} {d:DataW H} {pl:List MemPlace} {ts:List TypeId} {ds:List (DataW H)} {j:Nat} (hval:Value.okWide Tryz.prog W .any base 60 v)
  (h:DataW.Trod enc Tryz.prog W 0 (fun _=>true) true 60 v d pl) (hz:(DataW.weightsEach Tryz.prog ts ds).all (·≤reachBytes)=true) (ht:ts[j]?=some 60) (hd:ds[j]?=some d) :
  ∃ (vals:List Value) (pss:List (List PairB)),RdPs W v vals∧pss.length=vals.length∧∀ i,i < vals.length→RdP W (vals.getD i undef) (pss.getD i [])∧PSO (pss.getD i [])∧(pss.getD i []).length * 32≤140737488351232:=by
 have hzd:∀ n ∈ d.weights Tryz.prog 60,n≤reachBytes:=fun n hn=>by
  have:=List.all_eq_true.1 hz _ (DataW.weights_mem_each ht hd n hn)
  simpa using this
 obtain ⟨a0,len,cap,rfl⟩:=okWide_slice Tryz.underlying60 hval
 obtain ⟨fuel,hf⟩:=h
 have hb1:1≤Tryz.prog.bytesOf 33:=Nat.le_of_ble_eq_true (by kernel_rfl)
 have hc1:Tryz.prog.cellsOf 33=1:=by kernel_rfl
 rcases open_slice Tryz.underlying60 hf with ⟨hcs,_⟩ | ⟨x,l,c,m,n,D,Pl,hcs,_,hl,hm,hmm,hx,hcell⟩
 ·simp [Value.cells] at hcs
  obtain ⟨rfl,rfl,rfl⟩:=hcs
  exact ⟨[],[],RdG.nil pairsE W,rfl,fun i hi=>absurd hi (by simp)⟩
 ·simp [Value.cells] at hcs
  obtain ⟨rfl,rfl,rfl⟩:=hcs
  simp only [Prod.mk.injEq] at hx
  obtain ⟨rfl,_⟩:=hx
  simp only [if_true] at hmm
  subst hmm
  have hw:∀ i,i < len→∀ k ∈ (D i).weights Tryz.prog 33,k≤reachBytes:=fun i hi k hk=>by
   refine hzd k ?_
   rw [DataW.weights]
   simp only [Tryz.underlying60]
   refine List.mem_cons_of_mem _ (List.mem_append.2 (.inl (weights_mem_all5 hk ?_)))
   exact List.mem_map.2 ⟨i,List.mem_range.2 hi,rfl⟩
  have hs:=hzd _ (by rw [DataW.weights];simp only [Tryz.underlying60];exact List.mem_cons_self ..)
  simp only [List.length_map,List.length_range,reachBytes] at hs
  have hs2:len≤140737488351232:=by
   have:(len + (m - len)) * 1≤(len + (m - len)) * Tryz.prog.bytesOf 33:=Nat.mul_le_mul_left _ hb1
   omega
  rw [hc1] at hcell
  obtain ⟨L,hL⟩:=choose_lt (α:=Value × List PairB) (p:=fun i a=>(RdP W a.1 a.2∧PSO a.2∧a.2.length * 32≤140737488351232)∧W.cell? ((x.add i).add 0)=some a.1) (n:=len) (fun i hi=>by
   obtain ⟨cs',h1,h2⟩:=hcell i (by omega)
   obtain ⟨_,h3,h4⟩:=World.cells?_some h1
   match cs',h3 with
   | [c0],_ =>
    obtain ⟨qs,r1,r2,r3⟩:=pairs_core (d:=D i) (pl:=Pl i) h2 (hw i hi)
    refine ⟨(c0,qs),⟨r1,r2,r3⟩,?_⟩
    have:=h4 0 (by omega)
    rw [Nat.mul_one] at this
    simpa using this)
  have hlen:((List.range len).map fun i=>(L i).1).length=len:=by simp
  have e1:∀ i,i < len→((List.range len).map fun i=>(L i).1).getD i undef=(L i).1:=fun i hi=>by simp [List.getD,hi]
  have e2:∀ i,i < len→((List.range len).map fun i=>(L i).2).getD i []=(L i).2:=fun i hi=>by simp [List.getD,hi]
  have hsp:0 < len→∃ b o,x=⟨b,o,none⟩:=by
   intro hp
   have h0:=(hL 0 hp).2
   obtain ⟨b,o,sp⟩:=x
   cases sp with
   | none=>exact ⟨b,o,rfl⟩
   | some s =>
    exfalso
    simp only [Addr.add,if_true,World.cell?] at h0
    split at h0 <;> simp at h0
  refine ⟨(List.range len).map fun i=>(L i).1,(List.range len).map fun i=>(L i).2,⟨⟨some x,_,by rw [List.length_map,hlen],by rw [List.length_map,hlen];omega,(by intro h;cases h),fun hp=>?_⟩,?_,?_,by rw [List.length_map,hlen];exact hs2⟩,by simp,fun i hi=>?_⟩
  ·rw [List.length_map,hlen] at hp
   obtain ⟨b,o,rfl⟩:=hsp hp
   exact ⟨b,o,rfl⟩
  ·intro i hi j u hu
   rw [List.length_map,hlen] at hi
   rw [getD_map (fun x=>[x]) _ i (by rw [hlen];exact hi) undef,e1 i hi] at hu
   have hj:j=0:=by
    match j,hu with
    | 0,_=>rfl
   subst hj
   obtain rfl:(L i).1=u:=by simpa using hu
   have:=(hL i hi).2
   obtain ⟨b,o,rfl⟩:=hsp (by omega)
   rw [Addr.add_mid,Addr.add_mid,Nat.add_assoc] at this
   rw [adr_lit]
   have e:i * pairsE.n + 0=i + 0:=by rw [show pairsE.n=1 from rfl];omega
   rw [e]
   exact this
  ·intro z hz
   obtain ⟨t,_,rfl⟩:=List.mem_map.1 hz
   rfl
  ·rw [hlen] at hi
   rw [e1 i hi,e2 i hi]
   exact (hL i hi).1
end
end Go.Proofs.YtpcobefhgkiolaaGreatDoor


/- -/
namespace Go.Proofs.YtpcobefhgkiolaaGreatDoor
open Go.RowKit
end Go.Proofs.YtpcobefhgkiolaaGreatDoor


/- -/
namespace Go.Proofs.YtpcobefhgkiolaaGreatDoor
open Go.RowKit
end Go.Proofs.YtpcobefhgkiolaaGreatDoor

