/- -/
import Derived.Test.YtpcobefhgkiolaaGreatDoorCAppFull
import Derived.Test.YtpcobefhgkiolaaGreatDoorCZProgA
import Derived.Test.YtpcobefhgkiolaaGreatDoorCZPure
import Derived.Test.YtpcobefhgkiolaaGreatDoorCBoth
import Derived.Test.YtpcobefhgkiolaaGreatDoorCZDefs
import Derived.Lib.LaidTab
import Derived.LaidLaws
import Derived.Deep.Strs
import Derived.Test.YtpcobefhgkiolaaGreatDoorCColTk
import Derived.Test.YtpcobefhgkiolaaGreatDoorCCell
import Derived.Test.YtpcobefhgkiolaaGreatDoorCColCw
import Derived.Test.YtpcobefhgkiolaaGreatDoorCRdr
set_option linter.unusedVariables false
set_option linter.unusedSimpArgs false
set_option maxRecDepth 1000000
namespace Go.Proofs.YtpcobefhgkiolaaGreatDoor
open Go.RowKit Go.Shelf
theorem RdP.lit12 {w:World} {v:Value} {ps:List PairB} (h:RdP w v ps):∃ ao n cap,v=.slice ao n cap:=by
 obtain ⟨ts,_,h,_⟩:=h
 obtain ⟨ao,cap,e,_⟩:=RdG.shape h
 exact ⟨ao,_,cap,e⟩
theorem RdC.lit12 {w:World} {v:Value} {cs:List ColB} (h:RdC w v cs):∃ ao n cap,v=.slice ao n cap:=by
 obtain ⟨ao,cap,e,_⟩:=RdG.shape h
 exact ⟨ao,_,cap,e⟩
def Frs (w:World):Prop:=w.cell? ⟨0,0,none⟩=some (.int .i64 2)∧w.cell? ⟨0,1,none⟩=some (.int .i64 1)
theorem Frs.later {w w':World} (h:Frs w) (hb:Below w.heap.size w w'):Frs w':=⟨keep_cell hb h.1,keep_cell hb h.2⟩
def RdN (w:World) (v:Value) (x:EntB):Prop:=∃ pv,v=.agg #[.int .i64 x.1,.int .i64 x.2.1,pv]∧RdP w pv x.2.2
theorem entry_isNumber (x:Int) (w:World):Calls Tryz.prog 96 #[.int .i64 x] w fun e w'=>e=.returned (.bool (!decide (x < 0∨281474976710656 < x)))∧w=w':=by
 by_cases h1:x < 0
 ·have d1:decide (x ≥ 0)=false:=decide_eq_false (by omega)
  have HE:=h_ (show (!decide (x < 0∨281474976710656 < x))=false from by simp;omega)
  clear h1
  go_enter Tryz.func96,Tryz.ntmps96
  go_wp2
  go_ret
  exact ⟨by rw [HE.out];rfl,rfl⟩
 ·have d1:decide (x ≥ 0)=true:=decide_eq_true (by omega)
  by_cases h2:281474976710656 < x
  ·have d2:decide (x≤281474976710656)=false:=decide_eq_false (by omega)
   have HE:=h_ (show (!decide (x < 0∨281474976710656 < x))=false from by simp;omega)
   clear h1 h2
   go_enter Tryz.func96,Tryz.ntmps96
   go_wp2
   go_ret
   exact ⟨by rw [HE.out];rfl,rfl⟩
  ·have d2:decide (x≤281474976710656)=true:=decide_eq_true (by omega)
   have HE:=h_ (show (!decide (x < 0∨281474976710656 < x))=true from by simp;omega)
   clear h1 h2
   go_enter Tryz.func96,Tryz.ntmps96
   go_wp2
   go_ret
   exact ⟨by rw [HE.out];rfl,rfl⟩
theorem entry_next (s k:Int) (hs:0≤s∧s≤281474976710656) (w:World):Calls Tryz.prog 104 #[.int .i64 s,.int .i64 k] w fun e w'=>e=.returned (.int .i64 (if k=1 then s else s + 1))∧w=w':=by
 by_cases h1:k=1
 ·subst h1
  rw [if_pos rfl]
  clear hs
  go_enter Tryz.func104,Tryz.ntmps104
  go_wp2
  go_ret
  exact ⟨rfl,rfl⟩
 ·have d1:(k == 1)=false:=by rw [beq_eq_false_iff_ne];exact h1
  rw [if_neg h1]
  clear h1
  go_enter Tryz.func104,Tryz.ntmps104
  go_wp2
  go_ret
  exact ⟨rfl,rfl⟩
def KindO (k:Int) (w:World) (e:Ending) (w':World):Prop:=(∃ x,e=.returned (.tuple #[.int .i64 x,.bool (decide (k=1∨k=2))])∧(k=1∨k=2→x=2 - k))∧w=w'
theorem entry_kindOf (k:Int) (w:World) (hF:Frs w):Calls Tryz.prog 169 #[.int .i64 k] w (KindO k w):=by
 obtain ⟨f0,f1⟩:=hF
 have i0:∀ u,(Instr.index 125 (.agg #[.int .i64 2,.int .i64 1]) (.int .i64 0)).run Tryz.prog u=.ok (.int .i64 2) u:=fun _=>by kernel_rfl
 have i1:∀ u,(Instr.index 125 (.agg #[.int .i64 2,.int .i64 1]) (.int .i64 1)).run Tryz.prog u=.ok (.int .i64 1) u:=fun _=>by kernel_rfl
 go_enter Tryz.func169,Tryz.ntmps169
 go_wp2
 go_loopw [7] (fun i wr=>∃ j:Nat,j≤2∧i=.int .i64 j∧w=wr∧Hid ((0 < j→k≠2)∧(1 < j→k≠1))) (fun i _=>2 - (intOf i).toNat)
 case atStart=>exact ⟨0,by omega,rfl,rfl,h_ ⟨by omega,by omega⟩⟩
 case round =>
  obtain ⟨j,hj,rfl,rfl,HH⟩:=hrel
  have hjc:j=0∨j=1∨j=2:=by omega
  rcases hjc with rfl | rfl | rfl
  ·rw [show ((0:Nat):Int)=0 from rfl]
   clear hj
   by_cases h1:k=2
   ·subst h1
    go_wp2
    go_ret2
    exact ⟨⟨0,rfl,fun _=>rfl⟩,rfl⟩
   ·have d1:((2:Int) == k)=false:=by rw [beq_eq_false_iff_ne];exact fun e=>h1 e.symm
    have HN:=h_ h1
    clear h1
    go_wp2
    go_roundw
    case rel=>exact ⟨1,by omega,by simp,by simp,h_ ⟨fun _=>HN.out,by omega⟩⟩
    case measure=>simp [intOf]
  ·rw [show ((1:Nat):Int)=1 from rfl]
   clear hj
   by_cases h1:k=1
   ·subst h1
    go_wp2
    go_ret2
    exact ⟨⟨1,rfl,fun _=>rfl⟩,rfl⟩
   ·have d1:((1:Int) == k)=false:=by rw [beq_eq_false_iff_ne];exact fun e=>h1 e.symm
    have HN:=h_ h1
    clear h1
    go_wp2
    go_roundw
    case rel=>exact ⟨2,by omega,by simp,by simp,h_ ⟨fun _=>HH.out.1 (by omega),fun _=>HN.out⟩⟩
    case measure=>simp [intOf]
  ·have h1:=h_ (HH.out.1 (by omega))
   have h2:=h_ (HH.out.2 (by omega))
   rw [show ((2:Nat):Int)=2 from rfl]
   clear hj
   go_wp2
   go_ret2
   refine ⟨⟨0,?_,fun h=>?_⟩,rfl⟩
   ·rw [decide_eq_false (by have:=h1.out;have:=h2.out;omega)];rfl
   ·exfalso;rcases h with h | h
    ·exact h2.out h
    ·exact h1.out h
theorem new_one12 (w:World) (o:Obj):(w.alloc o).heap[w.heap.size]?=some o∧Below w.heap.size w (w.alloc o):=⟨heap_alloc_new _ _,(Below.refl _ _).alloc l_ _⟩
def Ebox (w:World) (b:Nat) (kind seq:Int) (pv:Value):Prop:=w.heap[b]?=some (.cells #[.int .i64 kind,.int .i64 seq,pv] 70 (0,0))
theorem Ebox.cells {w:World} {b:Nat} {kind seq:Int} {pv:Value} (h:Ebox w b kind seq pv):w.cell? ⟨b,0,none⟩=some (.int .i64 kind)∧w.cell? ⟨b,1,none⟩=some (.int .i64 seq)∧w.cell? ⟨b,2,none⟩=some pv :=
 ⟨cell_of_row _ _ 0 _ _ _ h,cell_of_row _ _ 1 _ _ _ h,cell_of_row _ _ 2 _ _ _ h⟩
theorem Ebox.later {w w':World} {b:Nat} {kind seq:Int} {pv:Value} (h:Ebox w b kind seq pv) (hb:Below w.heap.size w w'):Ebox w' b kind seq pv :=
 (hb.block b (Array.getElem?_eq_some_iff.1 h).1).trans h
set_option maxHeartbeats 4000000 in
theorem entry_Check (sv ev:Value) (cs:List ColB) (x:EntB) (w:World) (hR:RdC w sv cs) (hE:RdN w ev x) (hC:CS cs) (hX:EnO x) (hT:Tabs w) :
  Calls Tryz.prog 64 #[sv,ev] w fun e w'=>e=.returned (.int .i64 (entE cs x:Nat))∧Below w.heap.size w w':=by
 obtain ⟨kind,seq,ps⟩:=x
 obtain ⟨pv,rfl,hP⟩:=hE
 obtain ⟨hk,hs,hO⟩:=hX
 dsimp only at hP hk hs hO ⊢
 obtain ⟨ao,no,co,rfl⟩:=hP.lit12
 obtain ⟨N1,N2⟩:=new_one12 w (.cells #[.int .i64 kind,.int .i64 seq,.slice ao no co] 70)
 obtain ⟨w0,hw0⟩:∃ w0,w0=w.alloc (.cells #[.int .i64 kind,.int .i64 seq,.slice ao no co] 70):=⟨_,rfl⟩
 rw [← hw0] at N1 N2
 have SC:=h_ (schema_Check sv cs w0 (hR.later N2 l_) hC (hT.later N2))
 have ZC:=h_ (fun wz (hz:Below w.heap.size w wz)=>zset_Check sv (.slice ao no co) cs ps wz (hR.later hz l_) (hP.later hz l_) hC hO (hT.later hz))
 obtain ⟨g,hg⟩:∃ g,g=w.heap.size:=⟨_,rfl⟩
 rw [← hg] at N1
 have HE0:=h_ (show Ebox w0 g kind seq (.slice ao no co) from N1)
 have HB0:=h_ N2
 have HW0:=h_ hw0
 have HG:=h_ hg
 obtain ⟨E,hE⟩:∃ E,E=errS (colsL cs):=⟨_,rfl⟩
 obtain ⟨R,hRR⟩:∃ R,R=entE cs (kind,seq,ps):=⟨_,rfl⟩
 rw [← hE] at SC
 rw [← hRR]
 unfold entE at hRR
 dsimp only at hRR
 rw [← hE] at hRR
 clear hR hP hC hO hT N1 N2 hw0 hg hE
 by_cases hE0:E=0
 ·subst hE0
  rw [if_neg (by simp)] at hRR
  by_cases h1:kind < 0∨1 < kind
  ·rw [if_pos h1] at hRR
   subst hRR
   have hd:(decide (kind < 0)=true)∨(decide (kind < 0)=false∧decide (kind ≥ 2)=true):=by
    by_cases h:kind < 0
    ·exact .inl (decide_eq_true h)
    ·exact .inr ⟨decide_eq_false h,decide_eq_true (by omega)⟩
   clear h1 ZC
   rcases hd with d1 | ⟨d1,d2⟩
   all_goals (
    go_enter Tryz.func64,Tryz.ntmps64
    go_wp2_with fail
    rw [← HW0.out,← HG.out]
    refine SC.out.mono ?_
    rintro e w1 ⟨rfl,hb⟩
    have HB1:=h_ (HB0.out.trans (hb.mono HB0.out.size))
    obtain ⟨c0,c1,c2⟩:=(HE0.out.later hb).cells
    clear hb SC HE0
    go_wp2
    go_ret
    exact ⟨rfl,HB1.out⟩)
  ·rw [if_neg h1] at hRR
   have d1:decide (kind < 0)=false:=decide_eq_false (by omega)
   have d2:decide (kind ≥ 2)=false:=decide_eq_false (by omega)
   clear h1
   by_cases h2:seq < 0∨281474976710656 < seq
   ·rw [if_pos h2] at hRR
    subst hRR
    have IN:=h_ (fun wz=>entry_isNumber seq wz)
    rw [decide_eq_true h2] at IN
    clear h2 ZC
    go_enter Tryz.func64,Tryz.ntmps64
    go_wp2_with fail
    rw [← HW0.out,← HG.out]
    refine SC.out.mono ?_
    rintro e w1 ⟨rfl,hb⟩
    have HB1:=h_ (HB0.out.trans (hb.mono HB0.out.size))
    obtain ⟨c0,c1,c2⟩:=(HE0.out.later hb).cells
    clear hb SC HE0
    go_wp2_with fail
    refine (IN.out w1).mono ?_
    rintro e w2 ⟨rfl,rfl⟩
    go_wp2
    go_ret
    exact ⟨rfl,HB1.out⟩
   ·rw [if_neg h2] at hRR
    have IN:=h_ (fun wz=>entry_isNumber seq wz)
    rw [decide_eq_false h2] at IN
    rw [← hRR] at ZC
    clear h2 hRR
    go_enter Tryz.func64,Tryz.ntmps64
    go_wp2_with fail
    rw [← HW0.out,← HG.out]
    refine SC.out.mono ?_
    rintro e w1 ⟨rfl,hb⟩
    have HB1:=h_ (HB0.out.trans (hb.mono HB0.out.size))
    obtain ⟨c0,c1,c2⟩:=(HE0.out.later hb).cells
    clear hb SC HE0
    go_wp2_with fail
    refine (IN.out w1).mono ?_
    rintro e w2 ⟨rfl,rfl⟩
    go_wp2_with fail
    refine (ZC.out w1 HB1.out).mono ?_
    rintro e w3 ⟨rfl,hb⟩
    have HB3:=h_ (HB1.out.trans (hb.mono HB1.out.size))
    clear hb
    go_wp2
    go_ret
    exact ⟨rfl,HB3.out⟩
 ·rw [if_pos hE0] at hRR
  subst hRR
  have q:((R:Int) != 0)=true:=by rw [bne_iff_ne];omega
  clear hE0 ZC
  go_enter Tryz.func64,Tryz.ntmps64
  go_wp2_with fail
  rw [← HW0.out,← HG.out]
  refine SC.out.mono ?_
  rintro e w1 ⟨rfl,hb⟩
  have HB1:=h_ (HB0.out.trans (hb.mono HB0.out.size))
  clear hb SC HE0
  go_wp2
  go_ret
  exact ⟨rfl,HB1.out⟩
end Go.Proofs.YtpcobefhgkiolaaGreatDoor


/- -/
namespace Go.Proofs.YtpcobefhgkiolaaGreatDoor
open Go.ChangeShapes Go.WideShapes Go.ChangeAt Go.RowKit Go.Shelf Go.Deep
theorem frames_of {W : World} (h : Lib.VarReads Tryz.prog W "deckle/entry.frames" Rows.laid_deckle_entry_frames) : Frs W := by
 have e:(Rows.laid_deckle_entry_frames:DataW Unit)=Lib.tabData .i64 [2,1]:=by kernel_rfl
 rw [e] at h
 obtain ⟨g',t',cs,fuel,p,hg',ht',hvar,hd⟩:=h
 have hg : Tryz.prog.globalNamed "deckle/entry.frames" = some 0 := by kernel_rfl
 have hty:(Tryz.prog.globals[0]?).map (·.type)=some 125:=by kernel_rfl
 obtain rfl:=Option.some.inj (hg.symm.trans hg')
 obtain rfl:=Option.some.inj (hty.symm.trans ht')
 have hT : Lib.TabIs Tryz.prog W "deckle/entry.frames" .i64 [2, 1] := by
  unfold Lib.TabIs
  rw [hvar,← Lib.cells_of_tab (n:=2) (e:=3) (by kernel_rfl) (by kernel_rfl) (by kernel_rfl) (by kernel_rfl) hd]
 exact ⟨hT.cell (g:=0) (by kernel_rfl) 0 (by decide),hT.cell (g:=0) (by kernel_rfl) 1 (by decide)⟩
section
variable {H:Type} {enc:TypeId × Value→H} {W:World}
end
end Go.Proofs.YtpcobefhgkiolaaGreatDoor


/- -/
namespace Go.Proofs.YtpcobefhgkiolaaGreatDoor
open Go.RowKit
set_option maxHeartbeats 16000000 in
theorem column_takeEach (nf:Nat) (hnf:∀ (args:Array Value) (u:World),(callFunc nf args).run Tryz.prog u=.ok (.enter nf args) u) (fit:List UInt8→Bool) (g:Nat) (v:Value) (l:List UInt8) (k0:Nat) (n:Nat) (w:World) (kind:Int) (hk:kind=3∨kind=4)
  (hfit:∀ t,fit t=true ↔ ¬ (kind=4∧utf8 t=false)) (hR:Rdr w g v l k0) (hn:n≤1024)
  (hf:∀ wz s t,Only (fun j=>j=g) w wz→RdS s t→Calls Tryz.prog nf #[.string s] wz fun e w'=>e=.returned (.bool (fit t))∧Below wz.heap.size wz w') :
  Calls Tryz.prog 230 #[.pointer (some ⟨g,0,none⟩),.int .i64 (n:Int),.func (.func nf) #[] #[]] w (Took9 w g v l (rdN l kind n (0,[]) [] k0)):=by
 obtain ⟨R,hRR⟩:∃ R,R=rdN l kind n (0,[]) [] k0:=⟨_,rfl⟩
 rw [← hRR]
 have HRR:=h_ hRR
 have HG:=h_ hR.lt
 have HVB:=h_ (fun i (hi:i < l.length)=>hR.rd.block hi)
 have HO0:=h_ (Only.refl (fun j=>j=g) w)
 have HR0:=h_ hR
 have HK:=h_ hk
 have HF:=h_ hf
 have HFt:=h_ hfit
 clear hRR hR hk hf hfit
 go_enter Tryz.func230,Tryz.ntmps230
 go_wp2
 go_loopw [7,8,10] (fun b a i wr=>∃ (j k:Nat) (cs:List CellB) (ps:ByteArray) (pl:List UInt8),j≤n∧i=.int .i64 j∧a=.string ps∧Hid (RdS ps pl∧pl.length≤256)∧Hid (cs.length=j)∧Hid (Only (fun j=>j=g) w wr)∧Hid (Rdr wr g v l k)∧Hid (OwnE wr w.heap.size b cs)∧Hid (CES cs)∧Hid (R=rdN l kind (n - j) (0,pl) (cesL cs) k)) (fun _ _ i _=>n - (intOf i).toNat)
 case atStart=>exact ⟨0,k0,[],_,[],by omega,rfl,rfl,h_ ⟨⟨rfl,by simp⟩,by simp⟩,h_ rfl,HO0,HR0,h_ (OwnE.nil _ _),h_ CES.nil,HRR⟩
 case round =>
  clear HO0 HR0 HRR
  obtain ⟨j,k,cs,ps,pl,hj,rfl,rfl,HP,HL,HO,HR,HW,HC,HE⟩:=hrel
  by_cases hlt:j < n
  ·have d1:decide ((j:Int) < (n:Int))=true:=decide_eq_true (by omega)
   have hkl:=HR.out.le
   have hsl:=HR.out.rd.small
   have hrd:=rd1_rdT (l:=l) (i:=cs.length) (k:=k) (p:=(0,pl)) HK.out
   have hts:=rdT_size (l:=l) (k:=k) hkl HP.out.2
   have CN:=h_ (column_takeNext g v l k wr HR.out ps pl HP.out.1 HP.out.2)
   dsimp only at hrd
   rcases hr:rdT l pl k with ⟨t,k1,x1⟩
   rw [hr] at hrd hts CN
   dsimp only at hrd hts
   have HRD:=h_ hrd
   have HNx:=h_ (show R=rdN l kind ((n - (j + 1)) + 1) (0,pl) (cesL cs) k from by rw [HE.out,show n - j=(n - (j + 1)) + 1 from by omega])
   clear hrd hr hkl
   go_wp2_with fail
   refine CN.out.mono ?_
   rintro e w1 ⟨hg1,⟨hx,s,rfl,hs,hR1⟩ | ⟨hx,rfl,hEn⟩⟩
   ·dsimp only at hx hs hR1
    subst hx
    have HO1:=h_ (HO.out.grown hg1 rfl)
    have HR1:=h_ hR1
    have HW1:=h_ (HW.out.grown hg1 (fun q hq=>by have:=(OwnE.lt HW.out hq).1;have:=HG.out;intro e;injection e with e;omega))
    have HS:=h_ hs
    have hent:=hnf #[.string s]
    clear hg1 hR1 hs HO HR HW CN
    go_wp2_with fail
    refine (HF.out w1 s t HO1.out HS.out).mono ?_
    rintro e w2 ⟨rfl,hb⟩
    have HO2:=h_ (HO1.out.below hb l_)
    have HR2:=h_ (HR1.out.later hb l_)
    have HW2:=h_ (HW1.out.later hb l_)
    clear hb HO1 HR1 HW1 hent
    by_cases hu:kind=4∧utf8 t=false
    ·have hfa:fit t=false:=by
      cases h:fit t with
      | false=>rfl
      | true=>exact absurd hu ((HFt.out t).1 h)
     rw [hfa]
     have hF:R=([],k1,11):=by
      rw [HNx.out]
      exact rdN_end (c:=(0,[])) (by rw [cesL_length,HRD.out,if_neg (by simp),if_pos hu]) (by decide)
     have HFF:=h_ hF
     clear hfa hF hu
     go_wp2_with fail
     refine (reader_Must_no g v l k1 w2 HR2.out 11 (by decide)).mono ?_
     rintro e w3 ⟨rfl,hg3,hE3⟩
     have HFin:=h_ (show Took9 w g v l R (.panicked [{ v:=stopOf g 11,recovered:=false }]) w3 from ⟨HO2.out.grown hg3 rfl,.inr ⟨by rw [HFF.out];show (11:Nat)≠0;decide,by rw [HFF.out],by rw [HFF.out];exact hE3⟩⟩)
     clear hg3 hE3
     go_wp2
     exact ⟨rfl,HFin.out⟩
    ·rw [(HFt.out t).2 hu]
     have hs1:rd1 l kind (cesL cs).length (0,pl) k=((0,t),k1,0):=by rw [cesL_length,HRD.out,if_neg (by simp),if_neg hu]
     have HS1:=h_ hs1
     have hsz:s.size≤256:=by rw [HS.out.size9];exact hts
     clear hu hs1
     go_wp2_with fail
     refine (reader_Must_ok _ _ _).mono ?_
     rintro e w3 ⟨rfl,rfl⟩
     have HB7:=h_ (show Below w.heap.size w2 (w2.alloc (.cells #[.int .u64 0,.string s] 83)) from (Below.refl _ _).alloc HO2.out.size _)
     have h1c:=h_ (show ∀ j z,(cellVs (0,s))[j]?=some z→(w2.alloc (.cells #[.int .u64 0,.string s] 83)).cell? (Addr.add ⟨w2.heap.size,0,none⟩ j)=some z from one_cellv w2 (0,s))
     have HW7:=h_ (HW2.out.alloc (.cells #[.int .u64 0,.string s] 83))
     go_wp2_with (with_reducible refine wplE_append w.heap.size _ ?hs HW7.out ⟨w2.heap.size,0,none⟩ (0,s) ?hx h1c.out ?hn ?hbase w.heap.size w2 HB7.out l_ ?_)
     case hs=>rfl
     case hx=>rfl
     case hn=>rw [HL.out];omega
     case hbase=>rw [World.size_alloc];have:=HO2.out.size;omega
     intro v8 w8 hW8 hB8 hg8
     have hta:=took_append HG.out HVB.out HO2.out HR2.out HW2.out hB8
     have HO8:=h_ hta.1
     have HR8:=h_ hta.2
     have HW8:=h_ hW8
     have HC8:=h_ (HC.out.snoc (c:=(0,s)) ⟨by show (0:Nat) < 18446744073709551616;decide,by dsimp only;omega⟩)
     have HL8:=h_ (show (cs ++ [((0,s):CellB)]).length=j + 1 by rw [List.length_append,List.length_singleton,HL.out])
     have HK8:=h_ (show R=rdN l kind (n - (j + 1)) (0,t) (cesL (cs ++ [((0,s):CellB)])) k1 from by
      rw [HNx.out,rdN_go HS1.out,cesL_snoc9]
      unfold ceL
      rw [HS.out.dl])
     have HP8:=h_ (show RdS s t∧t.length≤256 from ⟨HS.out,hts⟩)
     clear hta hW8 hB8 hg8 HO2 HR2 HW2 HB7 HW7 hsz h1c
     go_wp2
     go_roundw
     case rel=>exact ⟨j + 1,k1,_,s,t,by omega,by go_num,rfl,HP8,HL8,HO8,HR8,HW8,HC8,HK8⟩
     case measure=>simp [intOf];omega
   ·dsimp only at hx hEn ⊢
    have hF:R=([],k1,x1):=by
     rw [HNx.out]
     exact rdN_end (c:=(0,[])) (by rw [cesL_length,HRD.out,if_pos hx]) hx
    have HFin:=h_ (show Took9 w g v l R (.panicked [{ v:=stopOf g x1,recovered:=false }]) w1 from ⟨HO.out.grown hg1 rfl,.inr ⟨by rw [hF];exact hx,by rw [hF],by rw [hF];exact hEn⟩⟩)
    clear hg1 hEn hF
    go_wp2
    exact ⟨rfl,HFin.out⟩
  ·obtain rfl:j=n:=by omega
   have d1:decide ((j:Int) < (j:Int))=false:=decide_eq_false (by omega)
   have hF:R=(cesL cs,k,0):=by rw [HE.out,Nat.sub_self,rdN]
   have HFin:=h_ (show Took9 w g v l R (.returned u7) wr from ⟨HO.out,.inl ⟨by rw [hF],u7,cs,rfl,HW.out,HC.out,by rw [hF],by rw [hF];exact HR.out⟩⟩)
   clear hF hlt
   go_wp2
   go_ret
   exact HFin.out
theorem enters_bytes1 (args:Array Value) (u:World):(callFunc 231 args).run Tryz.prog u=.ok (.enter 231 args) u:=enters9 Tryz.func231 (by kernel_rfl) rfl args u
theorem enters_valid (args:Array Value) (u:World):(callFunc 225 args).run Tryz.prog u=.ok (.enter 225 args) u:=enters9 Tryz.func225 (by kernel_rfl) rfl args u
theorem column_bytes1 (v:Value) (w:World):Calls Tryz.prog 231 #[v] w fun e w'=>e=.returned (.bool true)∧Below w.heap.size w w':=by
 go_enter Tryz.func231,Tryz.ntmps231
 go_wp2
 go_ret
 exact ⟨rfl,Below.refl _ _⟩
theorem column_takeBytes (g:Nat) (v:Value) (l:List UInt8) (k:Nat) (n:Nat) (w:World) (hR:Rdr w g v l k) (hn:n≤1024) :
  Calls Tryz.prog 195 #[.pointer (some ⟨g,0,none⟩),.int .i64 (n:Int)] w (Took9 w g v l (rdN l 3 n (0,[]) [] k)):=by
 have HA:=h_ (column_takeEach _ enters_bytes1 (fun _=>true) g v l k n w 3 (.inl rfl) (fun t=>⟨fun _ h=>absurd h.1 (by decide),fun _=>rfl⟩) hR hn (fun wz s t _ _=>column_bytes1 _ wz))
 clear hR
 go_enter Tryz.func195,Tryz.ntmps195
 go_wp2_with fail
 refine HA.out.mono ?_
 rintro e w1 ⟨hO,⟨hx,tv,cs,rfl,h1,h2,h3,h4⟩ | ⟨hx,rfl,hE⟩⟩
 ·have HF:=h_ (show Took9 w g v l (rdN l 3 n (0,[]) [] k) (.returned tv) w1 from ⟨hO,.inl ⟨hx,tv,cs,rfl,h1,h2,h3,h4⟩⟩)
  clear hO hx h1 h2 h3 h4 HA
  go_wp2
  go_ret
  exact HF.out
 ·have HF:=h_ (show Took9 w g v l (rdN l 3 n (0,[]) [] k) (.panicked [{ v:=stopOf g (rdN l 3 n (0,[]) [] k).2.2,recovered:=false }]) w1 from ⟨hO,.inr ⟨hx,rfl,hE⟩⟩)
  clear hO hx hE HA
  go_wp2
  exact ⟨rfl,HF.out⟩
theorem column_takeTexts (g:Nat) (v:Value) (l:List UInt8) (k:Nat) (n:Nat) (w:World) (hR:Rdr w g v l k) (hn:n≤1024) (hT:Tabs w) (hg:tabTop≤g) :
  Calls Tryz.prog 196 #[.pointer (some ⟨g,0,none⟩),.int .i64 (n:Int)] w (Took9 w g v l (rdN l 4 n (0,[]) [] k)):=by
 have hgl:=hR.lt
 have HA:=h_ (column_takeEach _ enters_valid utf8 g v l k n w 4 (.inr rfl) (fun t=>⟨fun h h2=>by rw [h] at h2;exact absurd h2.2 (by decide),fun h=>by cases hu:utf8 t with
   | true=>rfl
   | false=>exact absurd ⟨rfl,hu⟩ h⟩) hR hn (fun wz s t hO hs=>lib_Valid s t wz hs (tabs_only hT (fun j hj=>hO.block j (by omega) (by omega)))))
 clear hR
 go_enter Tryz.func196,Tryz.ntmps196
 go_wp2_with fail
 refine HA.out.mono ?_
 rintro e w1 ⟨hO,⟨hx,tv,cs,rfl,h1,h2,h3,h4⟩ | ⟨hx,rfl,hE⟩⟩
 ·have HF:=h_ (show Took9 w g v l (rdN l 4 n (0,[]) [] k) (.returned tv) w1 from ⟨hO,.inl ⟨hx,tv,cs,rfl,h1,h2,h3,h4⟩⟩)
  clear hO hx h1 h2 h3 h4 HA
  go_wp2
  go_ret
  exact HF.out
 ·have HF:=h_ (show Took9 w g v l (rdN l 4 n (0,[]) [] k) (.panicked [{ v:=stopOf g (rdN l 4 n (0,[]) [] k).2.2,recovered:=false }]) w1 from ⟨hO,.inr ⟨hx,rfl,hE⟩⟩)
  clear hO hx hE HA
  go_wp2
  exact ⟨rfl,HF.out⟩
end Go.Proofs.YtpcobefhgkiolaaGreatDoor


/- -/
namespace Go.Proofs.YtpcobefhgkiolaaGreatDoor
open Go.RowKit
def takeE (kind n:Int):Nat:=if kind < 0∨5 < kind then 10 else if n < 0∨1024 < n then 3 else 0
theorem column_checkTake (kind n:Int) (w:World) (hT:Tabs w) :
  Calls Tryz.prog 239 #[.int .i64 kind,.int .i64 n] w fun e w'=>e=.returned (.int .i64 (takeE kind n:Nat))∧Below w.heap.size w w':=by
 have CKd:=h_ (column_checkKind kind w hT)
 by_cases hk:kind < 0∨5 < kind
 ·rw [if_pos hk] at CKd
  rw [show takeE kind n=10 from by unfold takeE;rw [if_pos hk]]
  clear hk hT
  go_enter Tryz.func239,Tryz.ntmps239
  go_wp2_with fail
  refine CKd.out.mono ?_
  rintro e w1 ⟨rfl,hb⟩
  have HB:=h_ hb
  clear hb CKd
  go_wp2
  go_ret
  exact ⟨rfl,HB.out⟩
 ·rw [if_neg hk] at CKd
  by_cases h1:n < 0
  ·have d1:decide (n < 0)=true:=decide_eq_true h1
   rw [show takeE kind n=3 from by unfold takeE;rw [if_neg hk,if_pos (.inl h1)]]
   clear hk h1 hT
   go_enter Tryz.func239,Tryz.ntmps239
   go_wp2_with fail
   refine CKd.out.mono ?_
   rintro e w1 ⟨rfl,hb⟩
   have HB:=h_ hb
   clear hb CKd
   go_wp2
   go_ret
   exact ⟨rfl,HB.out⟩
  ·have d1:decide (n < 0)=false:=decide_eq_false h1
   by_cases h2:1024 < n
   ·have d2:decide (n > 1024)=true:=decide_eq_true h2
    rw [show takeE kind n=3 from by unfold takeE;rw [if_neg hk,if_pos (.inr h2)]]
    clear hk h1 h2 hT
    go_enter Tryz.func239,Tryz.ntmps239
    go_wp2_with fail
    refine CKd.out.mono ?_
    rintro e w1 ⟨rfl,hb⟩
    have HB:=h_ hb
    clear hb CKd
    go_wp2
    go_ret
    exact ⟨rfl,HB.out⟩
   ·have d2:decide (n > 1024)=false:=decide_eq_false h2
    rw [show takeE kind n=0 from by unfold takeE;rw [if_neg hk,if_neg (by omega)]]
    clear hk h1 h2 hT
    go_enter Tryz.func239,Tryz.ntmps239
    go_wp2_with fail
    refine CKd.out.mono ?_
    rintro e w1 ⟨rfl,hb⟩
    have HB:=h_ hb
    clear hb CKd
    go_wp2
    go_ret
    exact ⟨rfl,HB.out⟩
theorem column_taker (kind n:Int) (h0:takeE kind n=0) (g:Nat) (v:Value) (l:List UInt8) (k:Nat) (w:World) (hR:Rdr w g v l k) (hT:Tabs w) (hg:tabTop≤g) :
  Calls Tryz.prog (codecT kind) #[.pointer (some ⟨g,0,none⟩),.int .i64 n] w (Took9 w g v l (rdK l kind n k)):=by
 unfold takeE at h0
 have hk:0≤kind∧kind≤5:=by
  by_cases h:kind < 0∨5 < kind
  ·rw [if_pos h] at h0;cases h0
  ·omega
 rw [if_neg (by omega)] at h0
 have hn:0≤n∧n≤1024:=by
  by_cases h:n < 0∨1024 < n
  ·rw [if_pos h] at h0;cases h0
  ·omega
 obtain ⟨m,rfl⟩:∃ m:Nat,n=(m:Int):=⟨n.toNat,by omega⟩
 unfold rdK
 rw [if_neg (by omega),if_neg (by omega),Int.toNat_natCast]
 obtain rfl | rfl | rfl | rfl | rfl | rfl:kind=0∨kind=1∨kind=2∨kind=3∨kind=4∨kind=5:=by omega
 ·exact column_takeInts g v l k m w hR (by omega)
 ·exact column_takeUints 1 (.inl rfl) g v l k m w hR (by omega)
 ·exact column_takeBools g v l k m w hR (by omega)
 ·exact column_takeBytes g v l k m w hR (by omega)
 ·exact column_takeTexts g v l k m w hR (by omega) hT hg
 ·exact column_takeUints 5 (.inr rfl) g v l k m w hR (by omega)
theorem rdK_no {l:List UInt8} {kind n:Int} {k:Nat} (h:takeE kind n≠0):rdK l kind n k=([],k,takeE kind n):=by
 unfold takeE at h ⊢
 unfold rdK
 by_cases h1:kind < 0∨5 < kind
 ·rw [if_pos h1,if_pos h1]
 ·rw [if_neg h1] at h ⊢
  rw [if_neg h1]
  by_cases h2:n < 0∨1024 < n
  ·rw [if_pos h2,if_pos h2]
  ·rw [if_neg h2] at h;exact absurd rfl h
set_option maxHeartbeats 4000000 in
theorem column_Take (kind n:Int) (g:Nat) (v:Value) (l:List UInt8) (k:Nat) (w:World) (hR:Rdr w g v l k) (hT:Tabs w) (hg:tabTop≤g) :
  Calls Tryz.prog 218 #[.pointer (some ⟨g,0,none⟩),.int .i64 kind,.int .i64 n] w (Took9 w g v l (rdK l kind n k)):=by
 have CT:=h_ (column_checkTake kind n w hT)
 have HR:=h_ hR
 have HT:=h_ hT
 have HG:=h_ hg
 obtain ⟨R,hRR⟩:∃ R,R=rdK l kind n k:=⟨_,rfl⟩
 rw [← hRR]
 have HRR:=h_ hRR
 clear hR hT hg hRR
 by_cases h0:takeE kind n=0
 ·have hkd:0≤kind∧kind≤5:=by
   unfold takeE at h0
   by_cases h:kind < 0∨5 < kind
   ·rw [if_pos h] at h0;cases h0
   ·omega
  have HKd:=h_ hkd
  have H0:=h_ h0
  rw [h0] at CT
  obtain ⟨nf,hnf⟩:∃ nf,nf=codecT kind:=⟨_,rfl⟩
  have hent:=enters_codecT kind #[.pointer (some ⟨g,0,none⟩),.int .i64 n]
  rw [← hnf] at hent
  have HNF:=h_ hnf
  obtain ⟨nw,hnw⟩:∃ nw,nw=codecW kind:=⟨_,rfl⟩
  have HNW:=h_ hnw
  have hfd:∀ u,(Instr.field 231 (.agg #[.func (.func nw) #[] #[],.func (.func nf) #[] #[]]) 1).run Tryz.prog u=.ok (.func (.func nf) #[] #[]) u:=fun _=>by kernel_rfl
  clear hkd h0 hnf hnw
  go_enter Tryz.func218,Tryz.ntmps218
  go_wp2_with fail
  refine CT.out.mono ?_
  rintro e w1 ⟨rfl,hb⟩
  have HB1:=h_ hb
  clear hb CT
  have CD:=h_ (column_codecOf kind HKd.out w1)
  rw [← HNF.out,← HNW.out] at CD
  go_wp2_with fail
  refine CD.out.mono ?_
  rintro e w2 ⟨rfl,hb⟩
  have HB2:=h_ (HB1.out.trans (hb.mono HB1.out.size))
  have CK:=h_ (column_taker kind n H0.out g v l k w2 (HR.out.later HB2.out l_) (HT.out.later HB2.out) HG.out)
  rw [← HNF.out,← HRR.out] at CK
  clear hb CD HB1
  go_wp2_with fail
  refine CK.out.mono ?_
  rintro e w3 ⟨hO,⟨hx,tv,cs,rfl,h1,h2,h3,h4⟩ | ⟨hx,rfl,hE⟩⟩
  ·have HF:=h_ (show Took9 w g v l R (.returned tv) w3 from ⟨((Only.refl _ w).below HB2.out l_).trans hO,.inl ⟨hx,tv,cs,rfl,h1.lower HB2.out.size,h2,h3,h4⟩⟩)
   clear hO hx h1 h2 h3 h4 CK hent hfd
   go_wp2
   go_ret
   exact HF.out
  ·have HF:=h_ (show Took9 w g v l R (.panicked [{ v:=stopOf g R.2.2,recovered:=false }]) w3 from ⟨((Only.refl _ w).below HB2.out l_).trans hO,.inr ⟨hx,rfl,hE⟩⟩)
   clear hO hx hE CK hent hfd
   go_wp2
   exact ⟨rfl,HF.out⟩
 ·have hF:=rdK_no (l:=l) (k:=k) h0
  obtain ⟨y,hy⟩:∃ y,y=takeE kind n:=⟨_,rfl⟩
  rw [← hy] at CT hF h0
  have hyb:((y:Int) != 0)=true:=by rw [bne_iff_ne];omega
  have HF:=h_ (HRR.out.trans hF)
  have HY0:=h_ h0
  clear h0 hF hy
  go_enter Tryz.func218,Tryz.ntmps218
  go_wp2_with fail
  refine CT.out.mono ?_
  rintro e w1 ⟨rfl,hb⟩
  have HB1:=h_ hb
  clear hb CT
  go_wp2_with fail
  refine (reader_Must_no g v l k w1 (HR.out.later HB1.out l_) y HY0.out).mono ?_
  rintro e w3 ⟨rfl,hg3,hE3⟩
  have HFin:=h_ (show Took9 w g v l R (.panicked [{ v:=stopOf g y,recovered:=false }]) w3 from ⟨((Only.refl _ w).below HB1.out l_).grown hg3 rfl,.inr ⟨by rw [HF.out];exact HY0.out,by rw [HF.out],by rw [HF.out];exact hE3⟩⟩)
  clear hg3 hE3
  go_wp2
  exact ⟨rfl,HFin.out⟩
end Go.Proofs.YtpcobefhgkiolaaGreatDoor

