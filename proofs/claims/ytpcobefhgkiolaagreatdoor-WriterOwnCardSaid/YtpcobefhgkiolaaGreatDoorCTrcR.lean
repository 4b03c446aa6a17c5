/- -/
import Derived.Test.YtpcobefhgkiolaaGreatDoorCTrcP
import Derived.Test.YtpcobefhgkiolaaGreatDoorCCrcW
import Derived.Test.YtpcobefhgkiolaaGreatDoorCSchT
import Derived.Test.YtpcobefhgkiolaaGreatDoorCBatR
import Derived.Test.YtpcobefhgkiolaaGreatDoorCAppFull
import Derived.Test.YtpcobefhgkiolaaGreatDoorCFrame
import Derived.Test.YtpcobefhgkiolaaGreatDoorCTrcL
import Derived.Test.YtpcobefhgkiolaaGreatDoorCTrcW
import Derived.Test.YtpcobefhgkiolaaGreatDoorCTrcS
set_option linter.unusedVariables false
set_option linter.unusedSimpArgs false
set_option maxRecDepth 1000000
namespace Go.Proofs.YtpcobefhgkiolaaGreatDoor
open Go.RowKit Go.Shelf
theorem bytes_HasPrefix (v1 v2:Value) (l1 l2:List UInt8) (w:World) (h1:Rd w v1 l1) (h2:Rd w v2 l2) :
  Calls Tryz.prog 118 #[v1,v2] w fun e w'=>e=.returned (.bool (decide (¬ (l1.length < l2.length∨l1.take l2.length≠l2))))∧w=w':=by
 have hl1:=h1.len
 have hl2:=h2.len
 obtain ⟨n,hn⟩:∃ n,n=l1.length:=⟨_,rfl⟩
 obtain ⟨m,hm⟩:∃ m,m=l2.length:=⟨_,rfl⟩
 rw [← hn] at hl1 ⊢
 rw [← hm] at hl2 ⊢
 by_cases hle:m≤n
 ·obtain ⟨v3,hs3,hd3⟩:=h1.upto m (by omega)
  have BE:=h_ (bytes_Equal v3 v2 (l1.take m) l2 w (hd3 w h1) h2)
  have HE:=h_ (show (l1.take m == l2)=decide (¬ (n < m∨l1.take m≠l2)) from by
   by_cases h:l1.take m=l2
   ·rw [beq_iff_eq.2 h];exact (decide_eq_true (by simp [h];omega)).symm
   ·rw [beq_eq_false_iff_ne.2 h];exact (decide_eq_false (by simp [h])).symm)
  obtain ⟨z,hz⟩:∃ z,z=(l1.take m == l2):=⟨_,rfl⟩
  rw [← hz] at BE HE
  clear hn hm h1 h2 hd3 hz
  go_enter Tryz.func118,Tryz.ntmps118
  go_wp2_with fail
  refine BE.out.mono ?_
  rintro e w1 ⟨rfl,rfl⟩
  go_wp2
  go_ret
  exact ⟨by rw [← HE.out];rfl,rfl⟩
 ·have HE:=h_ (show decide (¬ (n < m∨l1.take m≠l2))=false from decide_eq_false (by simp;omega))
  have hd:decide (m≤n)=false:=decide_eq_false hle
  clear hn hm h1 h2
  go_enter Tryz.func118,Tryz.ntmps118
  go_wp2
  go_ret
  exact ⟨by rw [HE.out];rfl,rfl⟩
def RhO (w:World) (b:List UInt8) (e:Ending) (w':World):Prop :=
 Below w.heap.size w w'∧((∃ x y:Nat,y≠0∧trD b=([],[],[],x,y)∧e=.returned (.tuple #[.slice none 0 0,.int .i64 (x:Int),.int .i64 (y:Int)])) ∨
  ∃ (sv:Value) (cs:List ColB) (m:Nat),4 + m≤b.length∧trD b=trT cs (4 + m) (trJ [] [] (trR cs b b.length (4 + m) 0 0 []))∧e=.returned (.tuple #[sv,.int .i64 ((4 + m:Nat):Int),.int .i64 0])∧OwnC w' w.heap.size sv cs∧CS cs∧errS (colsL cs)=0)
set_option maxHeartbeats 8000000 in
theorem trace_readHead (v:Value) (b:List UInt8) (w:World) (h:Rd w v b) (hT:Tabs w) :
  Calls Tryz.prog 84 #[v] w (RhO w b):=by
 have hsm:=h.small
 have hcv:=Lib.run_convert_bytes_const (P:=Tryz.prog) w 36 5 #[.int .u8 68,.int .u8 75,.int .u8 76,.int .u8 49] 4 4 Tryz.underlying36 Tryz.underlying5
 obtain ⟨w0,hw0⟩:∃ w0,w0=w.alloc (.cells #[.int .u8 68,.int .u8 75,.int .u8 76,.int .u8 49] 5 (4,5)):=⟨_,rfl⟩
 have h4:Rd w0 (.slice (some ⟨w.heap.size,0,none⟩) 4 4) [68,75,76,49]:=by rw [hw0];exact rd_lit w [68,75,76,49] (by decide) (4,5)
 have HB0:=h_ (show Below w.heap.size w w0 from by rw [hw0];exact (Below.refl _ _).alloc l_ _)
 have HP:=h_ (bytes_HasPrefix v _ b _ w0 (h.later HB0.out l_) h4)
 have HW0:=h_ hw0
 clear h4 hw0
 by_cases h0:b.length < 4∨b.take 4≠magicL
 ·have hd:decide (¬ (b.length < 4∨b.take 4≠[68,75,76,49]))=false:=decide_eq_false (fun h9=>h9 h0)
  have HP2:=h_ (show Calls Tryz.prog 118 #[v,.slice (some ⟨w.heap.size,0,none⟩) 4 4] w0 fun e w'=>e=.returned (.bool false)∧w0=w' from by rw [← hd];exact HP.out)
  have HD:=h_ (trD_form h0)
  clear hd HP h0 h hT
  go_enter Tryz.func84,Tryz.ntmps84
  go_wp2_with fail
  rw [← HW0.out]
  refine HP2.out.mono ?_
  rintro e w1 ⟨rfl,rfl⟩
  clear HP2 hcv
  go_wp2
  go_ret3
  exact ⟨HB0.out,.inl ⟨0,6,by decide,HD.out,rfl⟩⟩
 ·have hd:decide (¬ (b.length < 4∨b.take 4≠[68,75,76,49]))=true:=decide_eq_true h0
  have HP2:=h_ (show Calls Tryz.prog 118 #[v,.slice (some ⟨w.heap.size,0,none⟩) 4 4] w0 fun e w'=>e=.returned (.bool true)∧w0=w' from by rw [← hd];exact HP.out)
  have hb4:4≤b.length:=by omega
  obtain ⟨v1,hs1,hd1⟩:=h.from 4 hb4
  have hs1:∀ u,(Instr.slice 36 v (some (.int .i64 4)) none none).run Tryz.prog u=.ok v1 u:=hs1
  have FN:=h_ (frame_Next v1 (b.drop 4) w0 (hd1 w0 (h.later HB0.out l_)))
  have SR:=h_ (fun pv p wz (hz:Below w.heap.size w wz) hp=>schema_Read pv p wz hp (hT.later hz))
  obtain ⟨K,p,m,y,hn⟩:∃ K p m y,nxF (b.drop 4)=(K,p,m,y):=⟨_,_,_,_,rfl⟩
  rw [hn] at FN
  have HN:=h_ hn
  have H0:=h_ h0
  clear hd HP h0 h hT hd1 hn
  go_enter Tryz.func84,Tryz.ntmps84
  go_wp2_with fail
  rw [← HW0.out]
  refine HP2.out.mono ?_
  rintro e w1 ⟨rfl,rfl⟩
  clear HP2 hcv
  go_wp2_with fail
  refine FN.out.mono ?_
  rintro e w2 ⟨pv,rfl,ho,hb⟩
  replace ho:Own w2 w0.heap.size pv p:=ho
  have HB2:=h_ (HB0.out.trans (hb.mono HB0.out.size))
  dsimp only
  clear FN hb
  by_cases hy:y=0
  ·subst hy
   obtain ⟨_,_,hK,hpl⟩:=trJ_fits (b:=b.drop 4) (a:=0) (by rw [List.drop_zero];exact HN.out) (by
    apply Decidable.of_not_not
    intro h9
    have:=nxF_one (b:=b.drop 4) (by rw [HN.out])
    rw [HN.out] at this
    have hp:=frB_pos K p
    have h1:=this.2.1
    have h2:=this.2.2.1
    dsimp only at h1 h2
    omega)
   by_cases hk0:K=0
   ·subst hk0
    have SP:=h_ (SR.out pv p w2 HB2.out (ho.rd (by omega)))
    have HM:=h_ (show 4 + m≤b.length from by
     have:=(nxF_one (b:=b.drop 4) (by rw [HN.out])).2.2.1
     rw [HN.out,List.length_drop] at this
     dsimp only at this;omega)
    clear SR ho hpl hK
    go_wp2_with fail
    refine SP.out.mono ?_
    rintro e w3 ⟨hb,tv,cs,rfl,hC,hCS,_,hcl⟩
    have HB3:=h_ (HB2.out.trans (hb.mono HB2.out.size))
    have HCC:=h_ (show OwnC w3 w.heap.size tv cs from OwnG.base hC HB2.out.size)
    have HCS:=h_ hCS
    have HCL:=h_ (show cs=colsB (readC p) from by rw [← hcl,colsB_colsL])
    obtain ⟨E,hE⟩:∃ E,E=readE p:=⟨_,rfl⟩
    rw [← hE]
    clear hb hC hCS hcl SP
    by_cases hE0:E=0
    ·subst hE0
     have HD:=h_ (trD_rest H0.out HN.out hE.symm)
     have HER:=h_ (show errS (colsL cs)=0 from by rw [HCL.out,colsL_colsB];exact (read_one hE.symm).1)
     clear hE
     have hm4:4 + m≤140737488351232:=by have:=HM.out;omega
     go_wp2
     go_ret3
     exact ⟨HB3.out,.inr ⟨tv,cs,m,HM.out,by rw [HCL.out];exact HD.out,rfl,HCC.out,HCS.out,HER.out⟩⟩
    ·have HD:=h_ (show trD b=([],[],[],4,E) from by rw [hE];exact trD_schema H0.out HN.out (by rw [← hE];exact hE0))
     have q:((E:Int) != 0)=true:=by rw [bne_iff_ne];omega
     have HE0:=h_ hE0
     clear hE hE0
     go_wp2
     go_ret3
     exact ⟨HB3.out,.inl ⟨4,E,HE0.out,HD.out,rfl⟩⟩
   ·have HD:=h_ (trD_kind H0.out HN.out hk0)
    have q:((K:Int) != 0)=true:=by rw [bne_iff_ne];omega
    clear hk0 SR ho hpl hK
    go_wp2
    go_ret3
    exact ⟨HB2.out,.inl ⟨4,10,by decide,HD.out,rfl⟩⟩
  ·have HD:=h_ (trD_frame H0.out HN.out hy)
   have q:((y:Int) != 0)=true:=by rw [bne_iff_ne];omega
   have HY:=h_ hy
   clear hy SR ho
   go_wp2
   go_ret3
   exact ⟨HB2.out,.inl ⟨4,y,HY.out,HD.out,rfl⟩⟩
def ReO (w : World) (cs : List ColB) (b : List UInt8) (e : Ending) (w' : World) : Prop :=
  Below w.heap.size w w' ∧ ∃ K p m y, nxF b = (K, p, m, y) ∧
    ((∃ E : Nat, E ≠ 0 ∧ ((y ≠ 0 ∧ E = y) ∨ (y = 0 ∧ E = entRE cs (K : Int) p)) ∧ e = .returned (.tuple #[.agg #[.int .i64 0, .int .i64 0, .slice none 0 0], .int .i64 0, .int .i64 (E : Int)])) ∨
     (y = 0 ∧ entRE cs (K : Int) p = 0 ∧ ∃ pv ps kd s, entX cs K p = (kd, s, ps) ∧ e = .returned (.tuple #[.agg #[.int .i64 kd, .int .i64 s, pv], .int .i64 (m : Nat), .int .i64 0]) ∧ NewP w' w.heap.size pv ps))
set_option maxHeartbeats 8000000 in
theorem trace_readEntry (sv v:Value) (cs:List ColB) (b:List UInt8) (w:World) (hR:RdC w sv cs) (h:Rd w v b) (hC:CS cs) (hT:Tabs w) (hF:Frs w) :
  Calls Tryz.prog 85 #[sv,v] w (ReO w cs b):=by
 obtain ⟨N1,N2⟩:=new_one12 w (.cells #[.int .i64 0,.int .i64 0,.slice none 0 0] 70)
 obtain ⟨w0,hw0⟩:∃ w0,w0=w.alloc (.cells #[.int .i64 0,.int .i64 0,.slice none 0 0] 70):=⟨_,rfl⟩
 rw [← hw0] at N1 N2
 obtain ⟨rb,hrb⟩:∃ rb,rb=w.heap.size:=⟨_,rfl⟩
 rw [← hrb] at N1
 have HR0:=h_ (show Ebox w0 rb 0 0 (.slice none 0 0) from N1)
 have HB0:=h_ N2
 have HW0:=h_ hw0
 have HRB:=h_ hrb
 have FN:=h_ (frame_Next v b w0 (h.later N2 l_))
 obtain ⟨K,p,m,y,hn⟩:∃ K p m y,nxF b=(K,p,m,y):=⟨_,_,_,_,rfl⟩
 rw [hn] at FN
 have HN:=h_ hn
 have hK:y=0→K≤2∧p.length≤1048576:=fun hy=>by
  subst hy
  have:=nxF_one (b:=b) (by rw [hn])
  rw [hn] at this
  exact ⟨this.2.2.2.1,this.2.2.2.2⟩
 have ER:=h_ (fun pv wz (hz:Below w.heap.size w wz) hp hk=>entry_Read sv pv cs (K:Int) p wz (hR.later hz l_) hp hC hk (hT.later hz) (hF.later hz))
 clear N1 N2 hw0 hrb hn hR h hC hT hF
 go_enter Tryz.func85,Tryz.ntmps85
 go_wp2_with fail
 rw [← HW0.out,← HRB.out]
 refine FN.out.mono ?_
 rintro e w2 ⟨pv,rfl,ho,hb⟩
 replace ho:Own w2 w0.heap.size pv p:=ho
 have HB2:=h_ (HB0.out.trans (hb.mono HB0.out.size))
 have HR2:=h_ (HR0.out.later hb)
 have HW2:=h_ (show rb + 1≤w2.heap.size from by have:=hb.size;have:=HR0.out.lt;omega)
 have HRN:=h_ (show w.heap.size≤rb from by rw [HRB.out];exact l_)
 dsimp only
 clear FN hb HR0
 by_cases hy:y=0
 ·obtain ⟨k1,k2⟩:=hK hy
  subst hy
  have EP:=h_ (ER.out pv w2 HB2.out (ho.rd (by omega)) ⟨by omega,by omega⟩)
  clear ER ho hK
  go_wp2_with fail
  refine EP.out.mono ?_
  rintro e w3 ⟨hb,ao,nn,cap,ps,rfl,hNP,hPO,hpl⟩
  have HX:=h_ (entX_of hPO hpl)
  have HB3:=h_ (HB2.out.trans (hb.mono HB2.out.size))
  have hR3:=HR2.out.later hb
  have hNP3:=hNP.lower HW2.out
  obtain ⟨E,hE⟩:∃ E,E=entRE cs (K:Int) p:=⟨_,rfl⟩
  rw [← hE]
  have HE:=h_ hE
  generalize entRV cs (K:Int) p=V at *
  obtain ⟨kd,s,tl⟩:=V
  dsimp only at HX
  dsimp only
  obtain ⟨M1,M2⟩:=new_one12 w3 (.cells #[.int .i64 kd,.int .i64 s,.slice ao nn cap] 70)
  obtain ⟨w4,hw4⟩:∃ w4,w4=w3.alloc (.cells #[.int .i64 kd,.int .i64 s,.slice ao nn cap] 70):=⟨_,rfl⟩
  rw [← hw4] at M1 M2
  have HR4:=h_ (hR3.later M2)
  have HE4:=h_ (show Ebox w4 w3.heap.size kd s (.slice ao nn cap) from M1)
  have HB4:=h_ (HB3.out.trans (M2.mono HB3.out.size))
  have HN4:=h_ (hNP3.later M2 l_)
  have HW4:=h_ hw4
  clear M1 M2 hw4 hb hNP hPO hpl hR3 hNP3 hE EP HR2
  have hw4:=HW4.out
  subst hw4
  obtain ⟨c0,c1,c2⟩:=HR4.out.cells
  have f0:=HR4.out.free 0
  have f1:=HR4.out.free 1
  have f2:=HR4.out.free 2
  obtain ⟨e0,e1,e2⟩:=HE4.out.cells
  by_cases hE0:E=0
  ·subst hE0
   have HE0:=h_ (show entRE cs (K:Int) p=0 from HE.out.symm)
   go_wp2
   obtain ⟨w9,hw9⟩:∃ w9,w9=(((w3.alloc (.cells #[.int .i64 kd,.int .i64 s,.slice ao nn cap] 70)).setCell ⟨rb,0,none⟩ (.int .i64 kd)).setCell ⟨rb,1,none⟩ (.int .i64 s)).setCell ⟨rb,2,none⟩ (.slice ao nn cap):=⟨_,rfl⟩
   rw [← hw9]
   obtain ⟨d0,d1,d2⟩:=(show Ebox w9 rb kd s (.slice ao nn cap) from by rw [hw9];exact HR4.out.reset kd s _).cells
   have hO9:Only (fun j=>j=rb) (w3.alloc (.cells #[.int .i64 kd,.int .i64 s,.slice ao nn cap] 70)) w9:=by rw [hw9];exact (((Only.refl (fun j=>j=rb) _).setCell (p:=⟨rb,0,none⟩) rfl _).setCell (p:=⟨rb,1,none⟩) rfl _).setCell (p:=⟨rb,2,none⟩) rfl _
   have HB9:Below w.heap.size w w9:=HB4.out.trans (hO9.toBelow (fun j e=>by have:=HRB.out;omega) HB4.out.size)
   refine bodyPost_ret (by simp [results,Tryz.results85,go_sem,d0,d1,d2];try rfl) rfl ?_
   exact ⟨HB9,K,p,m,0,HN.out,.inr ⟨rfl,HE0.out,_,ps,kd,s,HX.out,rfl,(HN4.out.only hO9 (fun q hq e=>by omega)).lower (by have:=HRN.out;omega)⟩⟩
  ·have q:((E:Int) != 0)=true:=by rw [bne_iff_ne];omega
   have HE0:=h_ hE0
   clear hE0
   go_wp2
   obtain ⟨w9,hw9⟩:∃ w9,w9=(((w3.alloc (.cells #[.int .i64 kd,.int .i64 s,.slice ao nn cap] 70)).setCell ⟨rb,0,none⟩ (.int .i64 0)).setCell ⟨rb,1,none⟩ (.int .i64 0)).setCell ⟨rb,2,none⟩ (.slice none 0 0):=⟨_,rfl⟩
   rw [← hw9]
   obtain ⟨d0,d1,d2⟩:=(show Ebox w9 rb 0 0 (.slice none 0 0) from by rw [hw9];exact HR4.out.reset 0 0 _).cells
   have hO9:Only (fun j=>j=rb) (w3.alloc (.cells #[.int .i64 kd,.int .i64 s,.slice ao nn cap] 70)) w9:=by rw [hw9];exact (((Only.refl (fun j=>j=rb) _).setCell (p:=⟨rb,0,none⟩) rfl _).setCell (p:=⟨rb,1,none⟩) rfl _).setCell (p:=⟨rb,2,none⟩) rfl _
   have HB9:Below w.heap.size w w9:=HB4.out.trans (hO9.toBelow (fun j e=>by have:=HRB.out;omega) HB4.out.size)
   refine bodyPost_ret (by simp [results,Tryz.results85,go_sem,d0,d1,d2];try rfl) rfl ?_
   exact ⟨HB9,K,p,m,0,HN.out,.inl ⟨E,HE0.out,.inr ⟨rfl,HE.out⟩,rfl⟩⟩
 ·have q:((y:Int) != 0)=true:=by rw [bne_iff_ne];omega
  have HY:=h_ hy
  obtain ⟨c0,c1,c2⟩:=HR2.out.cells
  have f0:=HR2.out.free 0
  have f1:=HR2.out.free 1
  have f2:=HR2.out.free 2
  clear hy hK ho ER
  go_wp2
  obtain ⟨w9,hw9⟩:∃ w9,w9=((w2.setCell ⟨rb,0,none⟩ (.int .i64 0)).setCell ⟨rb,1,none⟩ (.int .i64 0)).setCell ⟨rb,2,none⟩ (.slice none 0 0):=⟨_,rfl⟩
  rw [← hw9]
  obtain ⟨d0,d1,d2⟩:=(show Ebox w9 rb 0 0 (.slice none 0 0) from by rw [hw9];exact HR2.out.reset 0 0 _).cells
  have hO9:Only (fun j=>j=rb) w2 w9:=by rw [hw9];exact (((Only.refl (fun j=>j=rb) _).setCell (p:=⟨rb,0,none⟩) rfl _).setCell (p:=⟨rb,1,none⟩) rfl _).setCell (p:=⟨rb,2,none⟩) rfl _
  have HB9:Below w.heap.size w w9:=HB2.out.trans (hO9.toBelow (fun j e=>by have:=HRB.out;omega) HB2.out.size)
  refine bodyPost_ret (by simp [results,Tryz.results85,go_sem,d0,d1,d2];try rfl) rfl ?_
  exact ⟨HB9,K,p,m,y,HN.out,.inl ⟨y,HY.out,.inl ⟨HY.out,rfl⟩,rfl⟩⟩
end Go.Proofs.YtpcobefhgkiolaaGreatDoor


/- -/
namespace Go.Proofs.YtpcobefhgkiolaaGreatDoor
open Go.RowKit Go.Shelf
def RdR13 (w:World) (b:List UInt8) (e:Ending) (w':World):Prop :=
 Below w.heap.size w w'∧∃ tv xv,e=.returned (.tuple #[tv,xv,.int .i64 ((trD b).2.2.2.1:Nat),.int .i64 ((trD b).2.2.2.2:Nat)])∧(∀ w2,Only (fun j=>j < w.heap.size) w' w2→RdT13 w2 tv (trD b).1 (trD b).2.1)∧CS (trD b).1 ∧
  ((trD b).2.2.2.2=0→errS (colsL (trD b).1)=0∧RdG natE w' xv (((trD b).2.2.1.map (·.2)).map natV)∧(trD b).2.2.1.map (·.1)=0 :: (trD b).2.1.map (fun x=>x.2.1)∧(trD b).2.1.length≤4096)
theorem CS.nil:CS []:=fun c hc=>absurd hc (by simp)
theorem RdR13.no {w w':World} {b:List UInt8} {x y:Nat} (h:trD b=([],[],[],x,y)) (hy:y≠0) (hb:Below w.heap.size w w') :
  RdR13 w b (.returned (.tuple #[.agg #[.slice none 0 0,.slice none 0 0],.slice none 0 0,.int .i64 (x:Int),.int .i64 (y:Int)])) w':=by
 unfold RdR13
 rw [h]
 exact ⟨hb,_,_,rfl,fun w2 _=>⟨_,_,rfl,RdG.nil colE w2,RdZ.nil w2⟩,CS.nil,fun h=>absurd h hy⟩
theorem Abox.grown {E:Elt} {w w':World} {b base:Nat} {sv vv av:Value} {s:Int} {vs:List (List Value)} (h:Abox w b sv s vv) (ho:OwnG E w base av vs) (hT:E.T≠142) (hg:w.grownBy w' av.ownBlock):Abox w' b sv s vv:=by
 unfold Abox at h ⊢
 rw [hg.block b (Array.getElem?_eq_some_iff.1 h).1 (fun e=>ho.notOf h hT e.symm)]
 exact h
set_option maxHeartbeats 32000000 in
theorem trace_read (v:Value) (b:List UInt8) (w:World) (h:Rd w v b) (hT:Tabs w) (hF:Frs w) :
  Calls Tryz.prog 53 #[v] w (RdR13 w b):=by
 have hmf:∀ (fn:Fn) (first cap:Array Value) (w:World),(Instr.makeFunc fn first cap).run Tryz.prog w=.ok (.func fn first cap) w:=fun _ _ _ _=>rfl
 have hlen:=h.len
 have hsm:=h.small
 obtain ⟨N1,N2⟩:=new_one12 w (.cells #[.slice none 0 0,.slice none 0 0] 46)
 obtain ⟨w0,hw0⟩:∃ w0,w0=w.alloc (.cells #[.slice none 0 0,.slice none 0 0] 46):=⟨_,rfl⟩
 rw [← hw0] at N1 N2
 obtain ⟨rb,hrb⟩:∃ rb,rb=w.heap.size:=⟨_,rfl⟩
 rw [← hrb] at N1
 have HR0:=h_ (show Tbox w0 rb (.slice none 0 0) (.slice none 0 0) from N1)
 have HB0:=h_ N2
 have HW0:=h_ hw0
 have HRB:=h_ hrb
 have HS0:=h_ (show w0.heap.size=rb + 1 from by rw [hw0,hrb];simp)
 have RH:=h_ (trace_readHead v b w0 (h.later N2 l_) (hT.later N2))
 have HV:=h_ h
 have HT:=h_ hT
 have HF:=h_ hF
 obtain ⟨L,hL⟩:∃ L,L=b.length:=⟨_,rfl⟩
 rw [← hL] at hlen hsm
 have HL:=h_ hL
 clear N1 N2 hw0 hrb h hT hF hL
 go_enter Tryz.func53,Tryz.ntmps53
 go_wp2_with fail
 rw [← HW0.out,← HRB.out]
 refine RH.out.mono ?_
 rintro e w1 ⟨hb,hq⟩
 have HB1:=h_ (HB0.out.trans (hb.mono HB0.out.size))
 have HR1:=h_ (HR0.out.later hb)
 clear hb RH HR0
 rcases hq with ⟨x,y,hy,hd,rfl⟩ | ⟨sv,cs,m,hm,hd,rfl,hC,hCS,hE⟩
 ·have q:((y:Int) != 0)=true:=by rw [bne_iff_ne];omega
  have HY:=h_ hy
  have HD:=h_ hd
  obtain ⟨c0,c1⟩:=HR1.out.cells
  have f0:=HR1.out.free 0
  have f1:=HR1.out.free 1
  clear hy hd
  go_wp2
  obtain ⟨w9,hw9⟩:∃ w9,w9=(w1.setCell ⟨rb,0,none⟩ (.slice none 0 0)).setCell ⟨rb,1,none⟩ (.slice none 0 0):=⟨_,rfl⟩
  rw [← hw9]
  obtain ⟨e0,e1⟩:=(show Tbox w9 rb (.slice none 0 0) (.slice none 0 0) from by rw [hw9];exact HR1.out.both _ _).cells
  have HB9:Below w.heap.size w w9:=by rw [hw9];exact (HB1.out.setCell (p:=⟨rb,0,none⟩) (by rw [← HRB.out];exact l_) _).setCell (p:=⟨rb,1,none⟩) (by rw [← HRB.out];exact l_) _
  refine bodyPost_ret (by simp [results,Tryz.results53,go_sem,e0,e1];try rfl) rfl ?_
  exact RdR13.no HD.out HY.out HB9
 ·have hC1:RdC w1 sv cs:=hC.rd (by have:=(errS_zero hE).2.1;rw [colsL_length] at this;omega)
  obtain ⟨ac,nc,cc,rfl⟩:=hC1.lit12
  obtain ⟨a0,ha0⟩:∃ a0,a0=4 + m:=⟨_,rfl⟩
  rw [← ha0] at hm hd ⊢
  obtain ⟨T0,hT0⟩:∃ T0,T0=trR cs b b.length a0 0 0 []:=⟨_,rfl⟩
  rw [← hT0] at hd
  have HD:=h_ hd
  have HI:=h_ (show Loop13 b cs a0 T0 [] [] b.length a0 0 0 [] from ⟨by rw [hT0],by omega,rfl,rfl,fun p hp=>absurd hp (by simp),⟨by omega,by omega⟩,by omega⟩)
  obtain ⟨s0,z1,z2,z3,z4⟩:=new3 w1 (.cells #[.int .i64 (a0:Int)] 3) (.cells #[.slice ac nc cc,.slice none 0 0] 46) (.cells #[.slice ac nc cc,.int .i64 0,.slice none 0 0] 142)
  obtain ⟨w4,hw4⟩:∃ w4,w4=((w1.alloc (.cells #[.int .i64 (a0:Int)] 3)).alloc (.cells #[.slice ac nc cc,.slice none 0 0] 46)).alloc (.cells #[.slice ac nc cc,.int .i64 0,.slice none 0 0] 142):=⟨_,rfl⟩
  rw [← hw4] at s0 z1 z2 z3 z4
  have hX0:OwnN w4 w1.heap.size (.slice (some ⟨w1.heap.size,0,none⟩) 1 1) [a0]:=by
   have h1:OwnG natE (w1.alloc (.cells #[.int .i64 (a0:Int)] 3)) w1.heap.size (.slice (some ⟨w1.heap.size,0,none⟩) 1 1) [natV a0] :=
    ownG_built natE w1 w1.heap.size l_ [natV a0] (by intro x hx;rw [List.mem_singleton.1 hx];rfl) (by intro x hx u hu;rw [List.mem_singleton.1 hx] at hu;simp [natV] at hu;subst hu;rfl) (by simp)
   have h2:=((Below.refl (w1.alloc (.cells #[.int .i64 (a0:Int)] 3)).heap.size (w1.alloc (.cells #[.int .i64 (a0:Int)] 3))).alloc l_ (.cells #[.slice ac nc cc,.slice none 0 0] 46)).alloc (by simp) (.cells #[.slice ac nc cc,.int .i64 0,.slice none 0 0] 142)
   rw [hw4]
   exact OwnG.later h1 h2 l_
  have hrl:rb < w1.heap.size:=HR1.out.lt
  obtain ⟨eb,heb⟩:∃ eb,eb=w1.heap.size:=⟨_,rfl⟩
  have HVR:=h_ (show Vars13 natE w1 w4 (eb + 3) rb (eb + 1) (.slice ac nc cc) (.slice none 0 0) (.slice none 0 0) (.slice (some ⟨eb,0,none⟩) 1 1) (.slice none 0 0) ([a0].map natV) [] []∧Abox w4 (eb + 2) (.slice ac nc cc) 0 (.slice none 0 0) from by
   rw [heb]
   exact ⟨⟨HR1.out.later z4,z2,OwnG.nil entryE _ _,hX0,⟨OffS.nil _ _,by simp⟩,by omega,z4⟩,z3⟩)
  rw [← heb] at hrl
  have HN:=h_ hrl
  have HRC:=h_ hC1
  have HOC:=h_ hC
  have HCS:=h_ hCS
  have HER:=h_ hE
  have HW4:=h_ hw4
  have HEB:=h_ heb
  have HM:=h_ (show a0≤L from by rw [HL.out];exact hm)
  clear hm hd hT0 s0 z1 z2 z3 z4 hX0 hC hC1 hCS hE hw4 heb HR1 hrl ha0
  go_wp2
  rw [← HW4.out,← HEB.out,show eb + 1 + 1=eb + 2 from rfl]
  go_loopw [7,10] (fun n x wr=>∃ (a k f:Nat) (es:List EntB) (ms:List (Int × Nat)) (s:Int) (vw:List PairB) (ae:Option Addr) (ne ce:Nat) (vv:Value) (ts:List EntV),a≤L∧n=.int .i64 a∧Hid (Loop13 b cs a0 T0 es ms f a k s vw∧es=ts.map (·.2)) ∧
   Hid (Vars13 natE w1 wr (eb + 3) rb (eb + 1) (.slice ac nc cc) (.slice ae ne ce) (.slice ae ne ce) x vv ((a0 :: ms.map (·.2)).map natV) vw ts∧Abox wr (eb + 2) (.slice ac nc cc) s vv)) (fun n _ _=>L - (intOf n).toNat)
  case atStart=>exact ⟨a0,0,b.length,[],[],0,[],none,0,0,_,[],HM.out,rfl,h_ ⟨HI.out,rfl⟩,HVR⟩
  case round =>
   clear HVR HI HM
   obtain ⟨a,k,f,es,ms,s,vw,ae,ne,ce,vv,ts,haL,rfl,HI,HR⟩:=hrel
   have hks:=HI.out.1.len
   have hk4:=HI.out.1.most
   have htl:ts.length=k:=by have:=hks;rw [HI.out.2,List.length_map] at this;exact this
   have hlz:=(HR.out.1.held.entries HR.out.1.ownE (by omega)).len
   rw [List.length_map,htl] at hlz
   obtain ⟨c0,c1⟩:=HR.out.1.tb.cells
   have HTL:=h_ htl
   obtain ⟨r0,r1⟩:=HR.out.1.rb.cells
   have f0:=HR.out.1.rb.free 0
   have f1:=HR.out.1.rb.free 1
   have HBB:=h_ (show Below w.heap.size w wr from HB1.out.trans (HR.out.1.below.mono HB1.out.size))
   clear hks htl
   by_cases hlt:a < L
   ·have hab:a < b.length:=by rw [← HL.out];exact hlt
    by_cases hlim:4096≤k
    ·have HT9:=h_ (show trD b=([],[],[],a,13) from by rw [HD.out,HI.out.1.run];exact trT_no (trJ_limit hab HI.out.1.fuel hlim) (by decide))
     clear hab
     go_wp2
     obtain ⟨w9,hw9⟩:∃ w9,w9=(wr.setCell ⟨rb,0,none⟩ (.slice none 0 0)).setCell ⟨rb,1,none⟩ (.slice none 0 0):=⟨_,rfl⟩
     rw [← hw9]
     obtain ⟨e0,e1⟩:=(show Tbox w9 rb (.slice none 0 0) (.slice none 0 0) from by rw [hw9];exact HR.out.1.rb.both _ _).cells
     have HB9:Below w.heap.size w w9:=by rw [hw9];exact (HBB.out.setCell (p:=⟨rb,0,none⟩) (by rw [← HRB.out];exact l_) _).setCell (p:=⟨rb,1,none⟩) (by rw [← HRB.out];exact l_) _
     refine bodyPost_ret (by simp [results,Tryz.results53,go_sem,e0,e1];try rfl) rfl ?_
     exact RdR13.no HT9.out (by decide) HB9
    ·have hk5:k < 4096:=by omega
     obtain ⟨v1,hs1,hd1⟩:=HV.out.from a (by omega)
     have RE1:=h_ (trace_readEntry (.slice ac nc cc) v1 cs (b.drop a) wr (HRC.out.later HR.out.1.below l_) (hd1 wr (HV.out.later HBB.out l_)) HCS.out (HT.out.later HBB.out) (HF.out.later HBB.out))
     have HAB:=h_ (And.intro hab hk5)
     have hd:decide ((k:Int) ≥ 4096)=false:=decide_eq_false (by omega)
     clear hd1 hlim hab
     go_wp2_with fail
     refine RE1.out.mono ?_
     rintro e w5 ⟨hb5,K,p,mm,y,hn,hq⟩
     have HR5:=h_ (And.intro (HR.out.1.later hb5) (HR.out.2.later hb5))
     have HB5:=h_ (HBB.out.trans (hb5.mono HBB.out.size))
     have HS5:=h_ hb5.size
     have HNN:=h_ hn
     clear RE1 hb5 hn c0 c1 r0 r1 f0 f1 hd hk5
     rcases hq with ⟨E,hE0,hEy,rfl⟩ | ⟨hy,hre,pv,ps,kd,s2,hX,rfl,hNP⟩
     ·have HT9:=h_ (show trD b=([],[],[],a,E) from by
       rw [HD.out,HI.out.1.run]
       rcases hEy with ⟨hy,e⟩ | ⟨hy,e⟩
       ·subst e;exact trT_no (trJ_frame HAB.out.1 HI.out.1.fuel HAB.out.2 HNN.out hy) hy
       ·subst hy;exact trT_no (trJ_entry HAB.out.1 HI.out.1.fuel HAB.out.2 HNN.out e hE0) hE0)
      have q1:((E:Int) == 0)=false:=by rw [beq_eq_false_iff_ne];omega
      have q2:((E:Int) != 0)=true:=by rw [bne_iff_ne];omega
      have HE0:=h_ hE0
      obtain ⟨M1,M2⟩:=new_one12 w5 (.cells #[.int .i64 0,.int .i64 0,.slice none 0 0] 70)
      have HR6:=HR5.out.1.later M2
      have HB6:=HB5.out.trans (M2.mono HB5.out.size)
      obtain ⟨r0,r1⟩:=HR6.rb.cells
      have f0:=HR6.rb.free 0
      have f1:=HR6.rb.free 1
      replace HR6:=h_ HR6
      replace HB6:=h_ HB6
      clear hEy hE0 M1 M2 HR5 HB5
      go_wp2
      obtain ⟨w9,hw9⟩:∃ w9,w9=((w5.alloc (.cells #[.int .i64 0,.int .i64 0,.slice none 0 0] 70)).setCell ⟨rb,0,none⟩ (.slice none 0 0)).setCell ⟨rb,1,none⟩ (.slice none 0 0):=⟨_,rfl⟩
      rw [← hw9]
      obtain ⟨e0,e1⟩:=(show Tbox w9 rb (.slice none 0 0) (.slice none 0 0) from by rw [hw9];exact HR6.out.rb.both _ _).cells
      have HB9:Below w.heap.size w w9:=by rw [hw9];exact (HB6.out.setCell (p:=⟨rb,0,none⟩) (by rw [← HRB.out];exact l_) _).setCell (p:=⟨rb,1,none⟩) (by rw [← HRB.out];exact l_) _
      refine bodyPost_ret (by simp [results,Tryz.results53,go_sem,e0,e1];try rfl) rfl ?_
      exact RdR13.no HT9.out HE0.out HB9
     ·subst hy
      obtain ⟨ap,np,cp,rfl⟩:=hNP.rd.lit12
      obtain ⟨hfa,hfm,_,hpl⟩:=trJ_fits HNN.out HAB.out.1
      rw [← HL.out] at hfa
      have hXO:EnO ((kd,s2,ps):EntB):=by rw [← hX];exact (entX_one hpl hre).1
      have hNQ:=hNP.heldQ HR.out.1.top HR.out.1.lts.1 HR.out.1.lts.2
      obtain ⟨M1,M2⟩:=new_one12 w5 (.cells #[.int .i64 kd,.int .i64 s2,.slice ap np cp] 70)
      obtain ⟨w6,hw6⟩:∃ w6,w6=w5.alloc (.cells #[.int .i64 kd,.int .i64 s2,.slice ap np cp] 70):=⟨_,rfl⟩
      rw [← hw6] at M1 M2
      have HR6:=h_ (And.intro (HR5.out.1.later M2) (HR5.out.2.later M2))
      have HB6:=h_ (HB5.out.trans (M2.mono HB5.out.size))
      have HQ6:=h_ (hNQ.later M2)
      have HE6:=h_ (show Ebox w6 w5.heap.size kd s2 (.slice ap np cp) from M1)
      have TK:=h_ (trace_take (eb + 2) (.slice ac nc cc) vv (.agg #[.int .i64 kd,.int .i64 s2,.slice ap np cp]) cs s vw (kd,s2,ps) w6 HR6.out.2 (HRC.out.later HR6.out.1.below l_) HR6.out.1.held.1.rd ⟨_,rfl,HQ6.out.rd⟩ HCS.out HI.out.1.pso hXO HI.out.1.inw (HT.out.later HB6.out))
      obtain ⟨x0,x1,x2⟩:=HE6.out.cells
      have HW6:=h_ hw6
      have HXX:=h_ hX
      have HRE:=h_ hre
      have HEN:=h_ (show w5.heap.size≠eb + 2 from by have:=HR5.out.1.top;omega)
      clear hw6 M1 M2 hNP hNQ hXO hX hre hpl HR5 HB5
      go_wp2_with fail
      rw [← HW6.out]
      refine TK.out.mono ?_
      rintro e w7 ⟨rfl,hO,hq⟩
      have HR7:=h_ (HR6.out.1.turned hO (fun j e=>by subst e;exact ⟨by omega,_,_,_,HR6.out.2,by decide,by decide⟩) (fun e=>by have:=HN.out;omega) (by omega) (fun j e=>by have:=HEB.out;omega))
      have HB7:=h_ (HB6.out.trans (hO.toBelow (B:=w.heap.size) (fun j e=>by have:=HEB.out;have:=HB1.out.size;omega) HB6.out.size))
      have HE7:=h_ (show Ebox w7 w5.heap.size kd s2 (.slice ap np cp) from hO.keep HE6.out HEN.out)
      have HQ7:=h_ (HQ6.out.keep (w':=w7) (fun j hj hn=>hO.block j hj (fun e=>hn (.inl (by omega)))))
      obtain ⟨E,hEd⟩:∃ E,E=apE cs s vw (kd,s2,ps):=⟨_,rfl⟩
      rw [← hEd] at hq ⊢
      clear hO TK x0 x1 x2 HQ6
      by_cases hE0:E=0
      ·subst hE0
       obtain ⟨vn,hAn,hNn⟩:∃ vn,Abox w7 (eb + 2) (.slice ac nc cc) (apN cs s vw (kd,s2,ps)) vn∧NewP w7 w6.heap.size vn (apV cs s vw (kd,s2,ps)):=by
        rcases hq with ⟨h9,_⟩ | ⟨_,h9⟩
        ·exact absurd rfl h9
        ·exact h9
       obtain ⟨f',hI'⟩:=HI.out.1.next HAB.out.1 HAB.out.2 HNN.out HRE.out (by rw [HXX.out];exact hEd.symm)
       rw [HXX.out] at hI'
       obtain ⟨s',hs'⟩:∃ s',s'=apN cs s vw (kd,s2,ps):=⟨_,rfl⟩
       obtain ⟨V,hV⟩:∃ V,V=apV cs s vw (kd,s2,ps):=⟨_,rfl⟩
       rw [← hs',← hV] at hI'
       rw [← hs'] at hAn
       rw [← hV] at hNn
       have HR8:=h_ (HR7.out.seen (hNn.heldQ HR6.out.1.top HR6.out.1.lts.1 HR6.out.1.lts.2))
       have HA8:=h_ hAn
       have HI':=h_ hI'
       obtain ⟨c0,c1⟩:=HR8.out.tb.cells
       obtain ⟨x0,x1,x2⟩:=HE7.out.cells
       have ham:(a:Int) + (mm:Int)≤140737488351232:=by omega
       obtain ⟨M1,M2⟩:=new_one12 w7 (.cells #[.int .i64 kd,.int .i64 s2,.slice ap np cp] 70)
       have HR9:=h_ (HR8.out.later M2)
       have HA9:=h_ (HA8.out.later M2)
       have HQ9:=h_ (HQ7.out.later M2)
       have hoE:=HR9.out.ownE
       have hb9:=HR9.out.below
       clear hq hEd hI' hs' hV hAn hNn HR6 HR7 HR8 HA8 HQ7 HE6
       go_wp2_with (with_reducible refine wplZ1_append w1.heap.size _ ?hs hoE w7.heap.size (.slice ap np cp) (kd,s2,ps) ?hx M1 HQ9.out.rd ?hn ?hbase w1.heap.size w1 hb9 l_ ?_)
       case hs=>rfl
       case hx=>rfl
       case hn=>have:=HTL.out;omega
       case hbase=>exact hb9.size
       intro v10 w10 o10 b10 g10 p10
       obtain ⟨ag,ng,cg,rfl⟩:=o10.lit13
       have HR10:=h_ (HR9.out.pushE (by decide) HQ9.out o10 b10 g10 p10)
       have HA10:=h_ (HA9.out.grown HR9.out.ownE (by decide) g10)
       obtain ⟨M3,M4⟩:=new_one12 w10 (.cells #[.int .i64 ((a:Int) + (mm:Int))] 3)
       have HR11:=h_ (HR10.out.later M4)
       have HA11:=h_ (HA10.out.later M4)
       have hoX:OwnN (w10.alloc (.cells #[.int .i64 ((a:Int) + (mm:Int))] 3)) w1.heap.size u10 (a0 :: ms.map (·.2)):=HR11.out.ownX
       have hb11:=HR11.out.below
       have HML:=h_ (show (a0 :: ms.map (·.2)).length≤1000000000 from by have h1:=congrArg List.length HI.out.1.marks;have h2:=HI.out.1.len;simp at h1 ⊢;omega)
       have HEB1:=h_ (show w1.heap.size≤eb + 1 from by have:=HEB.out;omega)
       have M3':(w10.alloc (.cells #[.int .i64 ((a:Int) + (mm:Int))] 3)).heap[w10.heap.size]?=some (.cells #[.int .i64 ((a + mm:Nat):Int)] 3 (0,0)):=by push_cast;exact M3
       clear o10 b10 g10 p10 hoE hb9 HR9 HA9 HQ9 HR10 HA10 M1 M2 M4 c0 c1 x0 x1 x2
       go_wp2_with (with_reducible refine wplN_appendPl (l:=a0 :: ms.map (·.2)) w1.heap.size _ ?hs1 hoX w10.heap.size (a + mm) ?hx1 M3' ?hn1 ?hbase1 w1.heap.size w1 hb11 l_ ?_)
       case hs1=>rfl
       case hx1=>rfl
       case hn1=>exact HML.out
       case hbase1=>exact hb11.size
       intro v12 w12 o12 b12 g12 p12
       have HR12:=h_ (HR11.out.pushX (by decide) (by decide) (show OwnG natE w12 w1.heap.size v12 ((a0 :: (ms ++ [(s',a + mm)]).map (·.2)).map natV) from by
        have:=o12
        unfold OwnN at this
        simpa using this) b12 g12 p12)
       have HA12:=h_ (HA11.out.grown HR11.out.ownX (by decide) g12)
       obtain ⟨c0,c1⟩:=HR12.out.tb.cells
       have f1:=HR12.out.tb.free 1
       clear o12 b12 g12 p12 hoX hb11 HR11 HA11 M3 M3'
       go_wp2
       have hO:Only (fun j=>j=eb + 1) w12 (w12.setCell ⟨eb + 1,1,none⟩ (.slice ag ng cg)):=(Only.refl (fun j=>j=eb + 1) _).setCell (p:=⟨eb + 1,1,none⟩) rfl _
       have HRF:=h_ (And.intro (HR12.out.store (by decide) (by omega) HEB1.out (by have:=HN.out;omega) (.slice ag ng cg)) (show Abox _ (eb + 2) (.slice ac nc cc) s' vn from hO.keep HA12.out (by omega)))
       clear hO HR12 HA12 c0 c1 f1
       go_roundw
       case rel=>exact ⟨a + mm,k + 1,f',es ++ [(kd,s2,ps)],ms ++ [(s',a + mm)],s',V,ag,ng,cg,vn,ts ++ [(.slice ap np cp,(kd,s2,ps))],hfa,by go_num,h_ ⟨HI'.out,by rw [List.map_append,← HI.out.2];rfl⟩,HRF⟩
       case measure=>simp [intOf];omega
      ·have HT9:=h_ (show trD b=([],[],[],a,E) from by rw [HD.out,HI.out.1.run];exact trT_no (trJ_apply HAB.out.1 HI.out.1.fuel HAB.out.2 HNN.out HRE.out (by rw [HXX.out];exact hEd) hE0) hE0)
       have q2:((E:Int) != 0)=true:=by rw [bne_iff_ne];omega
       have HE0:=h_ hE0
       obtain ⟨r0,r1⟩:=HR7.out.rb.cells
       have f0:=HR7.out.rb.free 0
       have f1:=HR7.out.rb.free 1
       clear hq hEd hE0
       go_wp2
       obtain ⟨w9,hw9⟩:∃ w9,w9=(w7.setCell ⟨rb,0,none⟩ (.slice none 0 0)).setCell ⟨rb,1,none⟩ (.slice none 0 0):=⟨_,rfl⟩
       rw [← hw9]
       obtain ⟨e0,e1⟩:=(show Tbox w9 rb (.slice none 0 0) (.slice none 0 0) from by rw [hw9];exact HR7.out.rb.both _ _).cells
       have HB9:Below w.heap.size w w9:=by rw [hw9];exact (HB7.out.setCell (p:=⟨rb,0,none⟩) (by rw [← HRB.out];exact l_) _).setCell (p:=⟨rb,1,none⟩) (by rw [← HRB.out];exact l_) _
       refine bodyPost_ret (by simp [results,Tryz.results53,go_sem,e0,e1];try rfl) rfl ?_
       exact RdR13.no HT9.out HE0.out HB9
   ·obtain rfl:a=L:=by omega
    have HT9:=h_ (show trD b=(cs,es,(0,a0) :: ms,a,0) from by rw [HD.out,HI.out.1.run];exact trT_yes (trJ_end (by have:=HL.out;omega)))
    clear hlt
    go_wp2
    obtain ⟨w9,hw9⟩:∃ w9,w9=(wr.setCell ⟨rb,0,none⟩ (.slice ac nc cc)).setCell ⟨rb,1,none⟩ (.slice ae ne ce):=⟨_,rfl⟩
    rw [← hw9]
    obtain ⟨k1,k2,k3,k4⟩:=HR.out.1.answer (by decide) (by have:=HN.out;omega) (.slice ac nc cc) (.slice ae ne ce)
    rw [← hw9] at k1 k2 k3 k4
    obtain ⟨e0,e1⟩:=k4.cells
    have HB9:Below w.heap.size w w9:=by rw [hw9];exact (HBB.out.setCell (p:=⟨rb,0,none⟩) (by rw [← HRB.out];exact l_) _).setCell (p:=⟨rb,1,none⟩) (by rw [← HRB.out];exact l_) _
    have hO9:Only (fun j=>j=rb) wr w9:=by rw [hw9];exact ((Only.refl (fun j=>j=rb) _).setCell (p:=⟨rb,0,none⟩) rfl _).setCell (p:=⟨rb,1,none⟩) rfl _
    refine bodyPost_ret (by simp [results,Tryz.results53,go_sem,e0,e1];try rfl) rfl ?_
    have hcl:cs.length≤8:=by have:=(errS_zero HER.out).2.1;rw [colsL_length] at this;exact this
    unfold RdR13
    rw [HT9.out]
    refine ⟨HB9,_,_,rfl,fun w2 hO2=>⟨_,_,rfl,OwnG.rd (((HOC.out.later HR.out.1.below l_).stay hO9 (fun q hq e=>?_)).stay hO2 (fun q hq e=>?_)) (by simp;omega),?_⟩,HCS.out,fun _=>⟨HER.out,?_,?_,?_⟩⟩
    ·have:=(World.ownsRow.lt HOC.out.1 q hq).1
     have:=HS0.out
     omega
    ·have:=(World.ownsRow.lt HOC.out.1 q hq).1
     have:=HS0.out
     have:=HRB.out
     omega
    ·have h1:=HN.out
     have h2:=HRB.out
     have h3:=(k3.only hO2 (fun j e=>.inl (by omega))).entries (k1.stay hO2 (fun q hq e=>by have:=(World.ownsRow.lt k1.1 q hq).1;have:=HEB.out;omega)) (by have:=HTL.out;omega)
     rw [HI.out.2]
     exact h3
    ·exact k2.rd (by have:=congrArg List.length HI.out.1.marks;have:=HI.out.1.len;simp at this ⊢;simp at *;omega)
    ·rw [List.map_cons,HI.out.1.marks]
    ·rw [HI.out.1.len];exact HI.out.1.most
set_option maxHeartbeats 4000000 in
theorem trace_Decode (v:Value) (b:List UInt8) (w:World) (h:Rd w v b) (hT:Tabs w) (hF:Frs w) :
  Calls Tryz.prog 29 #[v] w (DcO13 w b):=by
 obtain ⟨N1,N2⟩:=new_one12 w (.cells #[.slice none 0 0,.slice none 0 0] 46)
 obtain ⟨w0,hw0⟩:∃ w0,w0=w.alloc (.cells #[.slice none 0 0,.slice none 0 0] 46):=⟨_,rfl⟩
 rw [← hw0] at N1 N2
 obtain ⟨rb,hrb⟩:∃ rb,rb=w.heap.size:=⟨_,rfl⟩
 rw [← hrb] at N1
 have HR0:=h_ (show Tbox w0 rb (.slice none 0 0) (.slice none 0 0) from N1)
 have HB0:=h_ N2
 have HW0:=h_ hw0
 have HRB:=h_ hrb
 have RD:=h_ (trace_read v b w0 (h.later N2 l_) (hT.later N2) (hF.later N2))
 clear N1 N2 hw0 hrb h hT hF
 unfold RdR13 at RD
 unfold DcO13
 generalize trD b=D at RD ⊢
 obtain ⟨cs,es,ms,p,y⟩:=D
 dsimp only at RD ⊢
 go_enter Tryz.func29,Tryz.ntmps29
 go_wp2_with fail
 rw [← HW0.out,← HRB.out]
 refine RD.out.mono ?_
 rintro e w1 ⟨hb,tv,xv,rfl,hT,hC,_⟩
 obtain ⟨sv,ev,rfl,hR,hZ⟩:=hT w1 (Only.refl _ _)
 obtain ⟨ae,ne,ce,rfl⟩:=hZ.lit
 obtain ⟨ac,nc,cc,rfl⟩:=hR.lit12
 have M2:Below w1.heap.size w1 (w1.alloc (.cells #[.slice ac nc cc,.slice ae ne ce] 46)):=(Below.refl _ _).alloc l_ _
 have HR2:=h_ ((HR0.out.later hb).later M2)
 have HB2:=h_ (HB0.out.trans ((hb.trans (M2.mono hb.size)).mono HB0.out.size))
 have HM2:=h_ M2
 have HT:=h_ hT
 have HC:=h_ hC
 have HLT:=h_ HR0.out.lt
 obtain ⟨r0,r1⟩:=HR2.out.cells
 have f0:=HR2.out.free 0
 have f1:=HR2.out.free 1
 clear hb hR hZ hT hC RD M2 HR0
 go_wp2
 obtain ⟨w9,hw9⟩:∃ w9,w9=((w1.alloc (.cells #[.slice ac nc cc,.slice ae ne ce] 46)).setCell ⟨rb,0,none⟩ (.slice ac nc cc)).setCell ⟨rb,1,none⟩ (.slice ae ne ce):=⟨_,rfl⟩
 rw [← hw9]
 obtain ⟨e0,e1⟩:=(show Tbox w9 rb (.slice ac nc cc) (.slice ae ne ce) from by rw [hw9];exact HR2.out.both _ _).cells
 have HB9:Below w.heap.size w w9:=by rw [hw9];exact (HB2.out.setCell (p:=⟨rb,0,none⟩) (by rw [← HRB.out];exact l_) _).setCell (p:=⟨rb,1,none⟩) (by rw [← HRB.out];exact l_) _
 have hO9:Only (fun j=>j < w0.heap.size) w1 w9:=by rw [hw9];exact ((hidOnly HM2.out l_).setCell (p:=⟨rb,0,none⟩) HLT.out _).setCell (p:=⟨rb,1,none⟩) HLT.out _
 refine bodyPost_ret (by simp [results,Tryz.results29,go_sem,e0,e1];try rfl) rfl ?_
 exact ⟨_,rfl,HT.out w9 hO9,HC.out,HB9⟩
end Go.Proofs.YtpcobefhgkiolaaGreatDoor

