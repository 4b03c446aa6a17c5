/- -/
import Derived.Test.YtlapgdocpndfiaaGreatDoorUSchT
import Derived.Test.YtlapgdocpndfiaaGreatDoorUBatR
import Derived.Test.YtlapgdocpndfiaaGreatDoorUTrcW
set_option maxHeartbeats 32000000
set_option linter.unusedVariables false
set_option linter.unusedSimpArgs false
set_option maxRecDepth 1000000
namespace Go.Proofs.YtlapgdocpndfiaaGreatDoor
open _root_.Go.Proofs.Tryz
open Go.RowKit Go.Shelf
theorem bytes_HasPrefix (v1 v2:Value) (l1 l2:Bs) (w:World) (h1:Rd w v1 l1) (h2:Rd w v2 l2) :
  Calls prog 116 #[v1,v2] w fun e w'=>e=.returned (.bool (decide (¬ (l1.length < l2.length∨l1.take l2.length≠l2))))/\w=w':=by
 have hl1:=h1.len;have hl2:=h2.len;obtain ⟨n,hn⟩:=nm_ l1.length;obtain ⟨m,hm⟩:=nm_ l2.length;rw [<- hn] at hl1 ⊢;rw [<- hm] at hl2 ⊢;by_cases hle:m<=n
 ·obtain ⟨v3,hs3,hd3⟩:=h1.upto m (by omega);have BE:=h_ (bytes_Equal v3 v2 (l1.take m) l2 w (hd3 w h1) h2)
  have HE:=h_ (show (l1.take m == l2)=decide (¬ (n < m∨l1.take m≠l2)) from by
   by_cases h:l1.take m=l2
   ·rw [beq_iff_eq.2 h];exact (decide_eq_true (by simp [h];omega)).symm
   ·rw [beq_eq_false_iff_ne.2 h];exact (decide_eq_false (by simp [h])).symm)
  obtain ⟨z,hz⟩:=nm_ ((l1.take m == l2));rw [<- hz] at BE HE;clear hn hm h1 h2 hd3 hz;go_enter func116,ntmps116;go_wp2_with fail;refine BE.mono ?_;rintro e w1 ⟨rfl,rfl⟩;go_wp2;go_ret;exact ⟨by rw [<- HE.o];rfl,rfl⟩
 have HE:=h_ (show decide (¬ (n < m∨l1.take m≠l2))=false from decide_eq_false (by simp;omega));have hd:decide (m<=n)=false:=decide_eq_false hle;clear hn hm h1 h2;go_enter func116,ntmps116;go_wp2;go_ret;exact ⟨by rw [HE.o];rfl,rfl⟩
def RhO (w:World) (b:Bs) (e:Ending) (w':World):Prop :=
 Below w.heap.size w w'/\((∃ x y:Nat,y≠0/\trD b=([],[],[],x,y)/\e=.returned (.tuple #[.slice none 0 0,.int .i64 (x:Int),.int .i64 (y:Int)])) ∨
  ∃ (sv:Value) (cs:List ColB) (m:Nat),4 + m<=b.length/\trD b=trT cs (4 + m) (trJ [] [] (trR cs b b.length (4 + m) 0 0 []))/\e=.returned (.tuple #[sv,.int .i64 ((4 + m:Nat):Int),.int .i64 0])/\OwnC w' w.heap.size sv cs/\CS cs/\errS (colsL cs)=0)
theorem zl1 (v:Value) (b:Bs) (w:World) (h:Rd w v b) (hT:Tabs w) :
  Calls prog 88 #[v] w (RhO w b):=by
 have hsm:=h.small;have hcv:=Lib.run_convert_bytes_const (P:=prog) w 22 5 #[.int .u8 68,.int .u8 75,.int .u8 76,.int .u8 49] 4 4 underlying22 underlying5;obtain ⟨w0,hw0⟩:=nm_ (w.alloc (.cells #[.int .u8 68,.int .u8 75,.int .u8 76,.int .u8 49] 5 (4,5)));have h4:Rd w0 (.slice (some ⟨w.heap.size,0,none⟩) 4 4) [68,75,76,49]:=by rw [hw0];exact zCL w [68,75,76,49] (by decide) (4,5)
 have HB0:=h_ (show Below w.heap.size w w0 from by rw [hw0];exact (Below.refl _ _).alloc l_ _);have HP:=h_ (bytes_HasPrefix v _ b _ w0 (h.later HB0.o l_) h4);have HW0:=h_ hw0;clear h4 hw0;by_cases h0:b.length < 4∨b.take 4≠magicL
 ·have hd:decide (¬ (b.length < 4∨b.take 4≠[68,75,76,49]))=false:=decide_eq_false (fun h9=>h9 h0);have HP2:=h_ (show Calls prog 116 #[v,.slice (some ⟨w.heap.size,0,none⟩) 4 4] w0 fun e w'=>e=.returned (.bool false)/\w0=w' from by rw [<- hd];exact HP.o);have HD:=h_ (zmR h0);clear hd HP h0 h hT;go_enter func88,ntmps88;go_wp2_with fail;rw [<- HW0.o];refine HP2.mono ?_;rintro e w1 ⟨rfl,rfl⟩;clear HP2 hcv;go_wp2;go_ret3;exact ⟨HB0.o,.inl ⟨0,6,by decide,HD.o,rfl⟩⟩
 have hd:decide (¬ (b.length < 4∨b.take 4≠[68,75,76,49]))=true:=decide_eq_true h0;have HP2:=h_ (show Calls prog 116 #[v,.slice (some ⟨w.heap.size,0,none⟩) 4 4] w0 fun e w'=>e=.returned (.bool true)/\w0=w' from by rw [<- hd];exact HP.o);have hb4:4<=b.length:=by omega
 obtain ⟨v1,hs1,hd1⟩:=h.from 4 hb4;have hs1:∀ u,(Instr.slice 22 v (some (.int .i64 4)) none none).run prog u=.ok v1 u:=hs1;have FN:=h_ (zlY v1 (b.drop 4) w0 (hd1 w0 (h.later HB0.o l_)));have SR:=h_ (fun pv p wz (hz:Below w.heap.size w wz) hp=>zr4 pv p wz hp (hT.later hz));obtain ⟨K,p,m,y,hn⟩:∃ K p m y,nxF (b.drop 4)=(K,p,m,y):=⟨_,_,_,_,rfl⟩;rw [hn] at FN;have HN:=h_ hn;have H0:=h_ h0;clear hd HP h0 h hT hd1 hn;go_enter func88,ntmps88;go_wp2_with fail;rw [<- HW0.o];refine HP2.mono ?_;rintro e w1 ⟨rfl,rfl⟩;clear HP2 hcv;go_wp2_with fail;refine FN.mono ?_;rintro e w2 ⟨pv,rfl,ho,hb⟩;replace ho:Own w2 w0.heap.size pv p:=ho;have HB2:=bT HB0 hb;dsimp only;clear FN hb;by_cases hy:y=0
 ·subst hy
  obtain ⟨_,_,hK,hpl⟩:=zfW (b:=b.drop 4) (a:=0) (by rw [List.drop_zero];exact HN.o) (by
   apply Decidable.of_not_not
   intro h9
   have:=zcN (b:=b.drop 4) (by rw [HN.o])
   rw [HN.o] at this
   have hp:=zb8 K p
   have h1:=this.2.1
   have h2:=this.2.2.1
   dsimp only at h1 h2
   omega)
  by_cases hk0:K=0
  ·subst hk0;have SP:=h_ (SR.o pv p w2 HB2.o (ho.rd (by omega)))
   have HM:=h_ (show 4 + m<=b.length from by
    have:=(zcN (b:=b.drop 4) (by rw [HN.o])).2.2.1
    rw [HN.o,List.length_drop] at this
    dsimp only at this;omega)
   clear SR ho hpl hK;go_wp2_with fail;refine SP.mono ?_;rintro e w3 ⟨hb,tv,cs,rfl,hC,hCS,_,hcl⟩;have HB3:=bT HB2 hb;have HCC:=h_ (show OwnC w3 w.heap.size tv cs from OwnG.base hC HB2.size);have HCS:=h_ hCS;have HCL:=h_ (show cs=colsB (readC p) from by rw [<- hcl,zcR]);obtain ⟨E,hE⟩:=nm_ (readE p);rw [<- hE];clear hb hC hCS hcl SP;by_cases hE0:E=0
   ·subst hE0;have HD:=h_ (zsQ H0.o HN.o hE.symm);have HER:=h_ (show errS (colsL cs)=0 from by rw [HCL.o,zc1];exact (ziG hE.symm).1);clear hE;have hm4:4 + m<=140737488351232:=(by have:=HM.o;omega);go_wp2;go_ret3;exact ⟨HB3.o,.inr ⟨tv,cs,m,HM.o,by rw [HCL.o];exact HD.o,rfl,HCC.o,HCS.o,HER.o⟩⟩
   have HD:=h_ (show trD b=([],[],[],4,E) from by rw [hE];exact zlD H0.o HN.o (by rw [<- hE];exact hE0));have q:((E:Int) != 0)=true:=(by rw [bne_iff_ne];omega);have HE0:=h_ hE0;clear hE hE0;go_wp2;go_ret3;exact ⟨HB3.o,.inl ⟨4,E,HE0.o,HD.o,rfl⟩⟩
  have HD:=h_ (zsR H0.o HN.o hk0);have q:((K:Int) != 0)=true:=by rw [bne_iff_ne];omega
  clear hk0 SR ho hpl hK;go_wp2;go_ret3;exact ⟨HB2.o,.inl ⟨4,10,by decide,HD.o,rfl⟩⟩
 have HD:=h_ (zoK H0.o HN.o hy);have q:((y:Int) != 0)=true:=by rw [bne_iff_ne];omega
 have HY:=h_ hy;clear hy SR ho;go_wp2;go_ret3;exact ⟨HB2.o,.inl ⟨4,y,HY.o,HD.o,rfl⟩⟩
def ReO (w : World) (cs : List ColB) (b : Bs) (e : Ending) (w' : World) : Prop :=
  Below w.heap.size w w' /\ ∃ K p m y, nxF b = (K, p, m, y) /\
    ((∃ E : Nat, E ≠ 0 /\ ((y ≠ 0 /\ E = y) ∨ (y = 0 /\ E = entRE cs (K : Int) p)) /\ e = .returned (.tuple #[.agg #[.int .i64 0, .int .i64 0, .slice none 0 0], .int .i64 0, .int .i64 (E : Int)])) ∨
     (y = 0 /\ entRE cs (K : Int) p = 0 /\ ∃ pv ps kd s, entX cs K p = (kd, s, ps) /\ e = .returned (.tuple #[.agg #[.int .i64 kd, .int .i64 s, pv], .int .i64 (m : Nat), .int .i64 0]) /\ NewP w' w.heap.size pv ps))
theorem zj0 (sv v:Value) (cs:List ColB) (b:Bs) (w:World) (hR:RdC w sv cs) (h:Rd w v b) (hC:CS cs) (hT:Tabs w) (hF:Frs w) :
  Calls prog 90 #[sv,v] w (ReO w cs b):=by
 obtain ⟨N1,N2⟩:=za7 w (.cells #[.int .i64 0,.int .i64 0,.slice none 0 0] 92);obtain ⟨w0,hw0⟩:=nm_ (w.alloc (.cells #[.int .i64 0,.int .i64 0,.slice none 0 0] 92));rw [<- hw0] at N1 N2;obtain ⟨rb,hrb⟩:=nm_ w.heap.size;rw [<- hrb] at N1;have HR0:=h_ (show Ebox w0 rb 0 0 (.slice none 0 0) from N1);have HB0:=h_ N2;have HW0:=h_ hw0;have HRB:=h_ hrb;have FN:=h_ (zlY v b w0 (h.later N2 l_));obtain ⟨K,p,m,y,hn⟩:∃ K p m y,nxF b=(K,p,m,y):=⟨_,_,_,_,rfl⟩;rw [hn] at FN;have HN:=h_ hn;have hK:y=0->K<=2/\p.length<=1048576:=fun hy=>by
  subst hy;have:=zcN (b:=b) (by rw [hn]);rw [hn] at this;exact ⟨this.2.2.2.1,this.2.2.2.2⟩
 have ER:=h_ (fun pv wz (hz:Below w.heap.size w wz) hp hk=>zvH sv pv cs (K:Int) p wz (hR.later hz l_) hp hC hk (hT.later hz) (hF.later hz));clear N1 N2 hw0 hrb hn hR h hC hT hF;go_enter func90,ntmps90;go_wp2_with fail;rw [<- HW0.o,<- HRB.o];refine FN.mono ?_;rintro e w2 ⟨pv,rfl,ho,hb⟩;replace ho:Own w2 w0.heap.size pv p:=ho;have HB2:=bT HB0 hb;have HR2:=h_ (HR0.later hb);have HW2:=h_ (show rb + 1<=w2.heap.size from by have:=hb.size;have:=HR0.lt;omega);have HRN:=h_ (show w.heap.size<=rb from by rw [HRB.o];exact l_);dsimp only;clear FN hb HR0;by_cases hy:y=0
 ·obtain ⟨k1,k2⟩:=hK hy;subst hy;have EP:=h_ (ER.o pv w2 HB2.o (ho.rd (by omega)) ⟨by omega,by omega⟩);clear ER ho hK;go_wp2_with fail;refine EP.mono ?_;rintro e w3 ⟨hb,ao,nn,cap,ps,rfl,hNP,hPO,hpl⟩;have HX:=h_ (zz4 hPO hpl);have HB3:=bT HB2 hb;have hR3:=HR2.later hb;have hNP3:=hNP.lower HW2.o;obtain ⟨E,hE⟩:=nm_ (entRE cs (K:Int) p);rw [<- hE];have HE:=h_ hE;generalize entRV cs (K:Int) p=V at *;obtain ⟨kd,s,tl⟩:=V;dsimp only at HX;dsimp only;obtain ⟨M1,M2⟩:=za7 w3 (.cells #[.int .i64 kd,.int .i64 s,.slice ao nn cap] 92);obtain ⟨w4,hw4⟩:=nm_ (w3.alloc (.cells #[.int .i64 kd,.int .i64 s,.slice ao nn cap] 92));rw [<- hw4] at M1 M2;have HR4:=h_ (hR3.later M2);have HE4:=h_ (show Ebox w4 w3.heap.size kd s (.slice ao nn cap) from M1);have HB4:=bT HB3 M2;have HN4:=h_ (hNP3.later M2 l_);have HW4:=h_ hw4;clear M1 M2 hw4 hb hNP hPO hpl hR3 hNP3 hE EP HR2;have hw4:=HW4.o;subst hw4;obtain ⟨c0,c1,c2⟩:=HR4.cells;have f0:=HR4.free 0;have f1:=HR4.free 1;have f2:=HR4.free 2;obtain ⟨e0,e1,e2⟩:=HE4.cells;by_cases hE0:E=0
  ·subst hE0;have HE0:=h_ (show entRE cs (K:Int) p=0 from HE.symm);go_wp2;obtain ⟨w9,hw9⟩:=nm_ ((((w3.alloc (.cells #[.int .i64 kd,.int .i64 s,.slice ao nn cap] 92)).setCell ⟨rb,0,none⟩ (.int .i64 kd)).setCell ⟨rb,1,none⟩ (.int .i64 s)).setCell ⟨rb,2,none⟩ (.slice ao nn cap));rw [<- hw9];obtain ⟨d0,d1,d2⟩:=(show Ebox w9 rb kd s (.slice ao nn cap) from by rw [hw9];exact HR4.reset kd s _).cells;have hO9:Only (fun j=>j=rb) (w3.alloc (.cells #[.int .i64 kd,.int .i64 s,.slice ao nn cap] 92)) w9:=(by rw [hw9];exact (((Only.refl (fun j=>j=rb) _).setCell (p:=⟨rb,0,none⟩) rfl _).setCell (p:=⟨rb,1,none⟩) rfl _).setCell (p:=⟨rb,2,none⟩) rfl _);have HB9:Below w.heap.size w w9:=HB4.trans (hO9.toBelow (fun j e=>by have:=HRB.o;omega) HB4.size);refine bodyPost_ret (by simp [results,results90,go_sem,d0,d1,d2];try rfl) rfl ?_;exact ⟨HB9,K,p,m,0,HN.o,.inr ⟨rfl,HE0.o,_,ps,kd,s,HX.o,rfl,(HN4.only hO9 (fun q hq e=>by omega)).lower (by have:=HRN.o;omega)⟩⟩
  have q:((E:Int) != 0)=true:=by rw [bne_iff_ne];omega
  have HE0:=h_ hE0;clear hE0;go_wp2;obtain ⟨w9,hw9⟩:=nm_ ((((w3.alloc (.cells #[.int .i64 kd,.int .i64 s,.slice ao nn cap] 92)).setCell ⟨rb,0,none⟩ (.int .i64 0)).setCell ⟨rb,1,none⟩ (.int .i64 0)).setCell ⟨rb,2,none⟩ (.slice none 0 0));rw [<- hw9];obtain ⟨d0,d1,d2⟩:=(show Ebox w9 rb 0 0 (.slice none 0 0) from by rw [hw9];exact HR4.reset 0 0 _).cells;have hO9:Only (fun j=>j=rb) (w3.alloc (.cells #[.int .i64 kd,.int .i64 s,.slice ao nn cap] 92)) w9:=by rw [hw9];exact (((Only.refl (fun j=>j=rb) _).setCell (p:=⟨rb,0,none⟩) rfl _).setCell (p:=⟨rb,1,none⟩) rfl _).setCell (p:=⟨rb,2,none⟩) rfl _
  have HB9:Below w.heap.size w w9:=HB4.trans (hO9.toBelow (fun j e=>by have:=HRB.o;omega) HB4.size);refine bodyPost_ret (by simp [results,results90,go_sem,d0,d1,d2];try rfl) rfl ?_;exact ⟨HB9,K,p,m,0,HN.o,.inl ⟨E,HE0.o,.inr ⟨rfl,HE.o⟩,rfl⟩⟩
 have q:((y:Int) != 0)=true:=by rw [bne_iff_ne];omega
 have HY:=h_ hy;obtain ⟨c0,c1,c2⟩:=HR2.cells;have f0:=HR2.free 0;have f1:=HR2.free 1;have f2:=HR2.free 2;clear hy hK ho ER;go_wp2;obtain ⟨w9,hw9⟩:=nm_ (((w2.setCell ⟨rb,0,none⟩ (.int .i64 0)).setCell ⟨rb,1,none⟩ (.int .i64 0)).setCell ⟨rb,2,none⟩ (.slice none 0 0));rw [<- hw9];obtain ⟨d0,d1,d2⟩:=(show Ebox w9 rb 0 0 (.slice none 0 0) from by rw [hw9];exact HR2.reset 0 0 _).cells;have hO9:Only (fun j=>j=rb) w2 w9:=by rw [hw9];exact (((Only.refl (fun j=>j=rb) _).setCell (p:=⟨rb,0,none⟩) rfl _).setCell (p:=⟨rb,1,none⟩) rfl _).setCell (p:=⟨rb,2,none⟩) rfl _
 have HB9:Below w.heap.size w w9:=HB2.trans (hO9.toBelow (fun j e=>by have:=HRB.o;omega) HB2.size);refine bodyPost_ret (by simp [results,results90,go_sem,d0,d1,d2];try rfl) rfl ?_;exact ⟨HB9,K,p,m,y,HN.o,.inl ⟨y,HY.o,.inl ⟨HY.o,rfl⟩,rfl⟩⟩
/- -/
def zl7 (w:World) (b:Bs) (e:Ending) (w':World):Prop :=
 Below w.heap.size w w'/\∃ tv xv,e=.returned (.tuple #[tv,xv,.int .i64 ((trD b).2.2.2.1:Nat),.int .i64 ((trD b).2.2.2.2:Nat)])/\(∀ w2,Only (fun j=>j < w.heap.size) w' w2->RdT13 w2 tv (trD b).1 (trD b).2.1)/\CS (trD b).1 /\
  ((trD b).2.2.2.2=0->errS (colsL (trD b).1)=0/\RdG natE w' xv (((trD b).2.2.1.map (·.2)).map natV)/\(trD b).2.2.1.map (·.1)=0 :: (trD b).2.1.map (fun x=>x.2.1)/\(trD b).2.1.length<=4096)
theorem CS.nil:CS []:=fun c hc=>absurd hc (by simp)
theorem zl7.no {w w':World} {b:Bs} {x y:Nat} (h:trD b=([],[],[],x,y)) (hy:y≠0) (hb:Below w.heap.size w w') :
  zl7 w b (.returned (.tuple #[.agg #[.slice none 0 0,.slice none 0 0],.slice none 0 0,.int .i64 (x:Int),.int .i64 (y:Int)])) w':=by
 unfold zl7;rw [h];exact ⟨hb,_,_,rfl,fun w2 _=>⟨_,_,rfl,RdG.nil colE w2,RdZ.nil w2⟩,CS.nil,fun h=>absurd h hy⟩
theorem Abox.grown {E:Elt} {w w':World} {b base:Nat} {sv vv av:Value} {s:Int} {vs:List (List Value)} (h:Abox w b sv s vv) (ho:OwnG E w base av vs) (hT:E.T≠155) (hg:w.grownBy w' av.ownBlock):Abox w' b sv s vv:=by
 unfold Abox at h ⊢;rw [hg.block b (Array.getElem?_eq_some_iff.1 h).1 (fun e=>ho.notOf h hT e.symm)];exact h
theorem zu4 (v:Value) (b:Bs) (w:World) (h:Rd w v b) (hT:Tabs w) (hF:Frs w) :
  Calls prog 65 #[v] w (zl7 w b):=by
 have hmf:∀ (fn:Fn) (first cap:Array Value) (w:World),(Instr.makeFunc fn first cap).run prog w=.ok (.func fn first cap) w:=fun _ _ _ _=>rfl;have hlen:=h.len;have hsm:=h.small;obtain ⟨N1,N2⟩:=za7 w (.cells #[.slice none 0 0,.slice none 0 0] 27);obtain ⟨w0,hw0⟩:=nm_ (w.alloc (.cells #[.slice none 0 0,.slice none 0 0] 27));rw [<- hw0] at N1 N2;obtain ⟨rb,hrb⟩:=nm_ w.heap.size;rw [<- hrb] at N1;have HR0:=h_ (show Tbox w0 rb (.slice none 0 0) (.slice none 0 0) from N1);have HB0:=h_ N2;have HW0:=h_ hw0;have HRB:=h_ hrb;have HS0:=h_ (show w0.heap.size=rb + 1 from by rw [hw0,hrb];simp);have RH:=h_ (zl1 v b w0 (h.later N2 l_) (hT.later N2));have HV:=h_ h;have HT:=h_ hT;have HF:=h_ hF;obtain ⟨L,hL⟩:=nm_ b.length;rw [<- hL] at hlen hsm;have HL:=h_ hL;clear N1 N2 hw0 hrb h hT hF hL;go_enter func65,ntmps65;go_wp2_with fail;rw [<- HW0.o,<- HRB.o];refine RH.mono ?_;rintro e w1 ⟨hb,hq⟩;have HB1:=bT HB0 hb;have HR1:=h_ (HR0.later hb);clear hb RH HR0;rcases hq with ⟨x,y,hy,hd,rfl⟩ | ⟨sv,cs,m,hm,hd,rfl,hC,hCS,hE⟩
 ·have q:((y:Int) != 0)=true:=by rw [bne_iff_ne];omega
  have HY:=h_ hy;have HD:=h_ hd;obtain ⟨c0,c1⟩:=HR1.cells;have f0:=HR1.free 0;have f1:=HR1.free 1;clear hy hd;go_wp2;obtain ⟨w9,hw9⟩:=nm_ ((w1.setCell ⟨rb,0,none⟩ (.slice none 0 0)).setCell ⟨rb,1,none⟩ (.slice none 0 0));rw [<- hw9];obtain ⟨e0,e1⟩:=(show Tbox w9 rb (.slice none 0 0) (.slice none 0 0) from by rw [hw9];exact HR1.both _ _).cells;have HB9:Below w.heap.size w w9:=by rw [hw9];exact (HB1.setCell (p:=⟨rb,0,none⟩) (by rw [<- HRB.o];exact l_) _).setCell (p:=⟨rb,1,none⟩) (by rw [<- HRB.o];exact l_) _
  refine bodyPost_ret (by simp [results,results65,go_sem,e0,e1];try rfl) rfl ?_;exact zl7.no HD.o HY.o HB9
 have hC1:RdC w1 sv cs:=hC.rd (by have:=(zaM hE).2.1;rw [za4] at this;omega);obtain ⟨ac,nc,cc,rfl⟩:=hC1.lit12;obtain ⟨a0,ha0⟩:=nm_ (4 + m);rw [<- ha0] at hm hd ⊢;obtain ⟨T0,hT0⟩:=nm_ (trR cs b b.length a0 0 0 []);rw [<- hT0] at hd;have HD:=h_ hd;have HI:=h_ (show Loop13 b cs a0 T0 [] [] b.length a0 0 0 [] from ⟨by rw [hT0],by omega,rfl,rfl,fun p hp=>absurd hp (by simp),⟨by omega,by omega⟩,by omega⟩);obtain ⟨s0,z1,z2,z3,z4⟩:=new3 w1 (.cells #[.int .i64 (a0:Int)] 3) (.cells #[.slice ac nc cc,.slice none 0 0] 27) (.cells #[.slice ac nc cc,.int .i64 0,.slice none 0 0] 155);obtain ⟨w4,hw4⟩:=nm_ (((w1.alloc (.cells #[.int .i64 (a0:Int)] 3)).alloc (.cells #[.slice ac nc cc,.slice none 0 0] 27)).alloc (.cells #[.slice ac nc cc,.int .i64 0,.slice none 0 0] 155));rw [<- hw4] at s0 z1 z2 z3 z4;have hX0:OwnN w4 w1.heap.size (.slice (some ⟨w1.heap.size,0,none⟩) 1 1) [a0]:=by
  have h1:OwnG natE (w1.alloc (.cells #[.int .i64 (a0:Int)] 3)) w1.heap.size (.slice (some ⟨w1.heap.size,0,none⟩) 1 1) [natV a0] :=
   zd7 natE w1 w1.heap.size l_ [natV a0] (by intro x hx;rw [List.mem_singleton.1 hx];rfl) (by intro x hx u hu;rw [List.mem_singleton.1 hx] at hu;simp [natV] at hu;subst hu;rfl) (by simp)
  have h2:=((Below.refl (w1.alloc (.cells #[.int .i64 (a0:Int)] 3)).heap.size (w1.alloc (.cells #[.int .i64 (a0:Int)] 3))).alloc l_ (.cells #[.slice ac nc cc,.slice none 0 0] 27)).alloc (by simp) (.cells #[.slice ac nc cc,.int .i64 0,.slice none 0 0] 155);rw [hw4];exact OwnG.later h1 h2 l_
 have hrl:rb < w1.heap.size:=HR1.lt;obtain ⟨eb,heb⟩:=nm_ w1.heap.size
 have HVR:=h_ (show Vars13 natE w1 w4 (eb + 3) rb (eb + 1) (.slice ac nc cc) (.slice none 0 0) (.slice none 0 0) (.slice (some ⟨eb,0,none⟩) 1 1) (.slice none 0 0) ([a0].map natV) [] []/\Abox w4 (eb + 2) (.slice ac nc cc) 0 (.slice none 0 0) from by
  rw [heb]
  exact ⟨⟨HR1.later z4,z2,OwnG.nil zcB _ _,hX0,⟨OffS.nil _ _,by simp⟩,by omega,z4⟩,z3⟩)
 rw [<- heb] at hrl;have HN:=h_ hrl;have HRC:=h_ hC1;have HOC:=h_ hC;have HCS:=h_ hCS;have HER:=h_ hE;have HW4:=h_ hw4;have HEB:=h_ heb;have HM:=h_ (show a0<=L from by rw [HL.o];exact hm);clear hm hd hT0 s0 z1 z2 z3 z4 hX0 hC hC1 hCS hE hw4 heb HR1 hrl ha0;go_wp2;rw [<- HW4.o,<- HEB.o,show eb + 1 + 1=eb + 2 from rfl]
 go_loopw [7,10] (fun n x wr=>∃ (a k f:Nat) (es:List EntB) (ms:List (Int × Nat)) (s:Int) (vw:List PairB) (ae:Option Addr) (ne ce:Nat) (vv:Value) (ts:List EntV),a<=L/\n=.int .i64 a/\Hid (Loop13 b cs a0 T0 es ms f a k s vw/\es=ts.map (·.2)) /\
  Hid (Vars13 natE w1 wr (eb + 3) rb (eb + 1) (.slice ac nc cc) (.slice ae ne ce) (.slice ae ne ce) x vv ((a0 :: ms.map (·.2)).map natV) vw ts/\Abox wr (eb + 2) (.slice ac nc cc) s vv)) (fun n _ _=>L - (intOf n).toNat)
 case atStart=>exact ⟨a0,0,b.length,[],[],0,[],none,0,0,_,[],HM.o,rfl,h_ ⟨HI.o,rfl⟩,HVR⟩
 clear HVR HI HM;obtain ⟨a,k,f,es,ms,s,vw,ae,ne,ce,vv,ts,haL,rfl,HI,HR⟩:=hrel;have hks:=HI.1.len;have hk4:=HI.1.most;have htl:ts.length=k:=by have:=hks;rw [HI.2,List.length_map] at this;exact this
 have hlz:=(HR.1.held.entries HR.1.ownE (by omega)).len;rw [List.length_map,htl] at hlz;obtain ⟨c0,c1⟩:=HR.1.tb.cells;have HTL:=h_ htl;obtain ⟨r0,r1⟩:=HR.1.rb.cells;have f0:=HR.1.rb.free 0;have f1:=HR.1.rb.free 1;have HBB:=h_ (show Below w.heap.size w wr from HB1.trans (HR.1.below.mono HB1.size));clear hks htl;by_cases hlt:a < L
 ·have hab:a < b.length:=by rw [<- HL.o];exact hlt
  by_cases hlim:4096<=k
  ·have HT9:=h_ (show trD b=([],[],[],a,13) from by rw [HD.o,HI.1.run];exact zhF (zoF hab HI.1.fuel hlim) (by decide));clear hab;go_wp2;obtain ⟨w9,hw9⟩:=nm_ ((wr.setCell ⟨rb,0,none⟩ (.slice none 0 0)).setCell ⟨rb,1,none⟩ (.slice none 0 0));rw [<- hw9];obtain ⟨e0,e1⟩:=(show Tbox w9 rb (.slice none 0 0) (.slice none 0 0) from by rw [hw9];exact HR.1.rb.both _ _).cells;have HB9:Below w.heap.size w w9:=(by rw [hw9];exact (HBB.setCell (p:=⟨rb,0,none⟩) (by rw [<- HRB.o];exact l_) _).setCell (p:=⟨rb,1,none⟩) (by rw [<- HRB.o];exact l_) _);refine bodyPost_ret (by simp [results,results65,go_sem,e0,e1];try rfl) rfl ?_;exact zl7.no HT9.o (by decide) HB9
  have hk5:k < 4096:=by omega
  obtain ⟨v1,hs1,hd1⟩:=HV.from a (by omega);have RE1:=h_ (zj0 (.slice ac nc cc) v1 cs (b.drop a) wr (HRC.later HR.1.below l_) (hd1 wr (HV.later HBB.o l_)) HCS.o (HT.later HBB.o) (HF.later HBB.o));have HAB:=h_ (And.intro hab hk5);have hd:decide ((k:Int) ≥ 4096)=false:=decide_eq_false (by omega);clear hd1 hlim hab;go_wp2_with fail;refine RE1.mono ?_;rintro e w5 ⟨hb5,K,p,mm,y,hn,hq⟩;have HR5:=h_ (And.intro (HR.1.later hb5) (HR.2.later hb5));have HB5:=bT HBB hb5;have HS5:=h_ hb5.size;have HNN:=h_ hn;clear RE1 hb5 hn c0 c1 r0 r1 f0 f1 hd hk5;rcases hq with ⟨E,hE0,hEy,rfl⟩ | ⟨hy,hre,pv,ps,kd,s2,hX,rfl,hNP⟩
  ·have HT9:=h_ (show trD b=([],[],[],a,E) from by
    rw [HD.o,HI.1.run]
    rcases hEy with ⟨hy,e⟩ | ⟨hy,e⟩
    ·subst e;exact zhF (zoG HAB.1 HI.1.fuel HAB.2 HNN.o hy) hy
    ·subst hy;exact zhF (zoH HAB.1 HI.1.fuel HAB.2 HNN.o e hE0) hE0)
   have q1:((E:Int) == 0)=false:=(by rw [beq_eq_false_iff_ne];omega);have q2:((E:Int) != 0)=true:=(by rw [bne_iff_ne];omega);have HE0:=h_ hE0;obtain ⟨M1,M2⟩:=za7 w5 (.cells #[.int .i64 0,.int .i64 0,.slice none 0 0] 92);have HR6:=HR5.1.later M2;have HB6:=HB5.trans (M2.mono HB5.size);obtain ⟨r0,r1⟩:=HR6.rb.cells;have f0:=HR6.rb.free 0;have f1:=HR6.rb.free 1;replace HR6:=h_ HR6;replace HB6:=h_ HB6;clear hEy hE0 M1 M2 HR5 HB5;go_wp2;obtain ⟨w9,hw9⟩:=nm_ (((w5.alloc (.cells #[.int .i64 0,.int .i64 0,.slice none 0 0] 92)).setCell ⟨rb,0,none⟩ (.slice none 0 0)).setCell ⟨rb,1,none⟩ (.slice none 0 0));rw [<- hw9];obtain ⟨e0,e1⟩:=(show Tbox w9 rb (.slice none 0 0) (.slice none 0 0) from by rw [hw9];exact HR6.rb.both _ _).cells;have HB9:Below w.heap.size w w9:=(by rw [hw9];exact (HB6.setCell (p:=⟨rb,0,none⟩) (by rw [<- HRB.o];exact l_) _).setCell (p:=⟨rb,1,none⟩) (by rw [<- HRB.o];exact l_) _);refine bodyPost_ret (by simp [results,results65,go_sem,e0,e1];try rfl) rfl ?_;exact zl7.no HT9.o HE0.o HB9
  subst hy;obtain ⟨ap,np,cp,rfl⟩:=hNP.rd.lit12;obtain ⟨hfa,hfm,_,hpl⟩:=zfW HNN.o HAB.1;rw [<- HL.o] at hfa;have hXO:EnO ((kd,s2,ps):EntB):=by rw [<- hX];exact (zgB hpl hre).1
  have hNQ:=hNP.heldQ HR.1.top HR.1.lts.1 HR.1.lts.2;obtain ⟨M1,M2⟩:=za7 w5 (.cells #[.int .i64 kd,.int .i64 s2,.slice ap np cp] 92);obtain ⟨w6,hw6⟩:=nm_ (w5.alloc (.cells #[.int .i64 kd,.int .i64 s2,.slice ap np cp] 92));rw [<- hw6] at M1 M2;have HR6:=h_ (And.intro (HR5.1.later M2) (HR5.2.later M2));have HB6:=bT HB5 M2;have HQ6:=h_ (hNQ.later M2);have HE6:=h_ (show Ebox w6 w5.heap.size kd s2 (.slice ap np cp) from M1);have TK:=h_ (zlB (eb + 2) (.slice ac nc cc) vv (.agg #[.int .i64 kd,.int .i64 s2,.slice ap np cp]) cs s vw (kd,s2,ps) w6 HR6.2 (HRC.later HR6.1.below l_) HR6.1.held.1.rd ⟨_,rfl,HQ6.rd⟩ HCS.o HI.1.pso hXO HI.1.inw (HT.later HB6.o));obtain ⟨x0,x1,x2⟩:=HE6.cells;have HW6:=h_ hw6;have HXX:=h_ hX;have HRE:=h_ hre;have HEN:=h_ (show w5.heap.size≠eb + 2 from by have:=HR5.1.top;omega);clear hw6 M1 M2 hNP hNQ hXO hX hre hpl HR5 HB5;go_wp2_with fail;rw [<- HW6.o];refine TK.mono ?_;rintro e w7 ⟨rfl,hO,hq⟩;have HR7:=h_ (HR6.1.turned hO (fun j e=>by subst e;exact ⟨by omega,_,_,_,HR6.2,by decide,by decide⟩) (fun e=>by have:=HN.o;omega) (by omega) (fun j e=>by have:=HEB.o;omega));have HB7:=h_ (HB6.trans (hO.toBelow (B:=w.heap.size) (fun j e=>by have:=HEB.o;have:=HB1.size;omega) HB6.size));have HE7:=h_ (show Ebox w7 w5.heap.size kd s2 (.slice ap np cp) from hO.keep HE6.o HEN.o);have HQ7:=h_ (HQ6.keep (w':=w7) (fun j hj hn=>hO.block j hj (fun e=>hn (.inl (by omega)))));obtain ⟨E,hEd⟩:=nm_ (apE cs s vw (kd,s2,ps));rw [<- hEd] at hq ⊢;clear hO TK x0 x1 x2 HQ6;by_cases hE0:E=0
  ·subst hE0;obtain ⟨vn,hAn,hNn⟩:∃ vn,Abox w7 (eb + 2) (.slice ac nc cc) (apN cs s vw (kd,s2,ps)) vn/\NewP w7 w6.heap.size vn (apV cs s vw (kd,s2,ps)):=by
    rcases hq with ⟨h9,_⟩ | ⟨_,h9⟩
    ·exact absurd rfl h9
    exact h9
   obtain ⟨f',hI'⟩:=HI.1.next HAB.1 HAB.2 HNN.o HRE.o (by rw [HXX.o];exact hEd.symm);rw [HXX.o] at hI';obtain ⟨s',hs'⟩:=nm_ (apN cs s vw (kd,s2,ps));obtain ⟨V,hV⟩:=nm_ (apV cs s vw (kd,s2,ps));rw [<- hs',<- hV] at hI';rw [<- hs'] at hAn;rw [<- hV] at hNn;have HR8:=h_ (HR7.seen (hNn.heldQ HR6.1.top HR6.1.lts.1 HR6.1.lts.2));have HA8:=h_ hAn;have HI':=h_ hI';obtain ⟨c0,c1⟩:=HR8.tb.cells;obtain ⟨x0,x1,x2⟩:=HE7.cells;have ham:(a:Int) + (mm:Int)<=140737488351232:=(by omega);obtain ⟨M1,M2⟩:=za7 w7 (.cells #[.int .i64 kd,.int .i64 s2,.slice ap np cp] 92);have HR9:=h_ (HR8.later M2);have HA9:=h_ (HA8.later M2);have HQ9:=h_ (HQ7.later M2);have hoE:=HR9.ownE;have hb9:=HR9.below;clear hq hEd hI' hs' hV hAn hNn HR6 HR7 HR8 HA8 HQ7 HE6;go_wp2_with (with_reducible refine zhB w1.heap.size _ ?hs hoE w7.heap.size (.slice ap np cp) (kd,s2,ps) ?hx M1 HQ9.o.rd ?hn ?hbase w1.heap.size w1 hb9 l_ ?_)
   case hs=>rfl
   case hx=>rfl
   case hn=>have:=HTL.o;omega
   case hbase=>exact hb9.size
   intro v10 w10 o10 b10 g10 p10;obtain ⟨ag,ng,cg,rfl⟩:=o10.lit13;have HR10:=h_ (HR9.pushE (by decide) HQ9.o o10 b10 g10 p10);have HA10:=h_ (HA9.grown HR9.ownE (by decide) g10);obtain ⟨M3,M4⟩:=za7 w10 (.cells #[.int .i64 ((a:Int) + (mm:Int))] 3);have HR11:=h_ (HR10.later M4);have HA11:=h_ (HA10.later M4);have hoX:OwnN (w10.alloc (.cells #[.int .i64 ((a:Int) + (mm:Int))] 3)) w1.heap.size u10 (a0 :: ms.map (·.2)):=HR11.ownX;have hb11:=HR11.below;have HML:=h_ (show (a0 :: ms.map (·.2)).length<=1000000000 from by have h1:=congrArg List.length HI.1.marks;have h2:=HI.1.len;simp at h1 ⊢;omega);have HEB1:=h_ (show w1.heap.size<=eb + 1 from by have:=HEB.o;omega);have M3':(w10.alloc (.cells #[.int .i64 ((a:Int) + (mm:Int))] 3)).heap[w10.heap.size]?=some (.cells #[.int .i64 ((a + mm:Nat):Int)] 3 (0,0)):=(by push_cast;exact M3);clear o10 b10 g10 p10 hoE hb9 HR9 HA9 HQ9 HR10 HA10 M1 M2 M4 c0 c1 x0 x1 x2;go_wp2_with (with_reducible refine zmM (l:=a0 :: ms.map (·.2)) w1.heap.size _ ?hs1 hoX w10.heap.size (a + mm) ?hx1 M3' ?hn1 ?hbase1 w1.heap.size w1 hb11 l_ ?_)
   case hs1=>rfl
   case hx1=>rfl
   case hn1=>exact HML.o
   case hbase1=>exact hb11.size
   intro v12 w12 o12 b12 g12 p12
   have HR12:=h_ (HR11.pushX (by decide) (by decide) (show OwnG natE w12 w1.heap.size v12 ((a0 :: (ms ++ [(s',a + mm)]).map (·.2)).map natV) from by
    have:=o12
    unfold OwnN at this
    simpa using this) b12 g12 p12)
   have HA12:=h_ (HA11.grown HR11.ownX (by decide) g12);obtain ⟨c0,c1⟩:=HR12.tb.cells;have f1:=HR12.tb.free 1;clear o12 b12 g12 p12 hoX hb11 HR11 HA11 M3 M3';go_wp2;have hO:Only (fun j=>j=eb + 1) w12 (w12.setCell ⟨eb + 1,1,none⟩ (.slice ag ng cg)):=(Only.refl (fun j=>j=eb + 1) _).setCell (p:=⟨eb + 1,1,none⟩) rfl _;have HRF:=h_ (And.intro (HR12.store (by decide) (by omega) HEB1.o (by have:=HN.o;omega) (.slice ag ng cg)) (show Abox _ (eb + 2) (.slice ac nc cc) s' vn from hO.keep HA12.o (by omega)));clear hO HR12 HA12 c0 c1 f1;go_roundw
   case rel=>exact ⟨a + mm,k + 1,f',es ++ [(kd,s2,ps)],ms ++ [(s',a + mm)],s',V,ag,ng,cg,vn,ts ++ [(.slice ap np cp,(kd,s2,ps))],hfa,by go_num,h_ ⟨HI'.o,by rw [List.map_append,<- HI.2];rfl⟩,HRF⟩
   simp [intOf];omega
  have HT9:=h_ (show trD b=([],[],[],a,E) from by rw [HD.o,HI.1.run];exact zhF (zoI HAB.1 HI.1.fuel HAB.2 HNN.o HRE.o (by rw [HXX.o];exact hEd) hE0) hE0);have q2:((E:Int) != 0)=true:=by rw [bne_iff_ne];omega
  have HE0:=h_ hE0;obtain ⟨r0,r1⟩:=HR7.rb.cells;have f0:=HR7.rb.free 0;have f1:=HR7.rb.free 1;clear hq hEd hE0;go_wp2;obtain ⟨w9,hw9⟩:=nm_ ((w7.setCell ⟨rb,0,none⟩ (.slice none 0 0)).setCell ⟨rb,1,none⟩ (.slice none 0 0));rw [<- hw9];obtain ⟨e0,e1⟩:=(show Tbox w9 rb (.slice none 0 0) (.slice none 0 0) from by rw [hw9];exact HR7.rb.both _ _).cells;have HB9:Below w.heap.size w w9:=by rw [hw9];exact (HB7.setCell (p:=⟨rb,0,none⟩) (by rw [<- HRB.o];exact l_) _).setCell (p:=⟨rb,1,none⟩) (by rw [<- HRB.o];exact l_) _
  refine bodyPost_ret (by simp [results,results65,go_sem,e0,e1];try rfl) rfl ?_;exact zl7.no HT9.o HE0.o HB9
 obtain rfl:a=L:=by omega
 have HT9:=h_ (show trD b=(cs,es,(0,a0) :: ms,a,0) from by rw [HD.o,HI.1.run];exact zwJ (zwL (by have:=HL.o;omega)));clear hlt;go_wp2;obtain ⟨w9,hw9⟩:=nm_ ((wr.setCell ⟨rb,0,none⟩ (.slice ac nc cc)).setCell ⟨rb,1,none⟩ (.slice ae ne ce));rw [<- hw9];obtain ⟨k1,k2,k3,k4⟩:=HR.1.answer (by decide) (by have:=HN.o;omega) (.slice ac nc cc) (.slice ae ne ce);rw [<- hw9] at k1 k2 k3 k4;obtain ⟨e0,e1⟩:=k4.cells;have HB9:Below w.heap.size w w9:=by rw [hw9];exact (HBB.setCell (p:=⟨rb,0,none⟩) (by rw [<- HRB.o];exact l_) _).setCell (p:=⟨rb,1,none⟩) (by rw [<- HRB.o];exact l_) _
 have hO9:Only (fun j=>j=rb) wr w9:=by rw [hw9];exact ((Only.refl (fun j=>j=rb) _).setCell (p:=⟨rb,0,none⟩) rfl _).setCell (p:=⟨rb,1,none⟩) rfl _
 refine bodyPost_ret (by simp [results,results65,go_sem,e0,e1];try rfl) rfl ?_;have hcl:cs.length<=8:=by have:=(zaM HER.o).2.1;rw [za4] at this;exact this
 unfold zl7;rw [HT9.o];refine ⟨HB9,_,_,rfl,fun w2 hO2=>⟨_,_,rfl,OwnG.rd (((HOC.later HR.1.below l_).stay hO9 (fun q hq e=>?_)).stay hO2 (fun q hq e=>?_)) (by simp;omega),?_⟩,HCS.o,fun _=>⟨HER.o,?_,?_,?_⟩⟩
 ·have:=(World.ownsRow.lt HOC.1 q hq).1;have:=HS0.o;omega
 ·have:=(World.ownsRow.lt HOC.1 q hq).1;have:=HS0.o;have:=HRB.o;omega
 ·have h1:=HN.o;have h2:=HRB.o;have h3:=(k3.only hO2 (fun j e=>.inl (by omega))).entries (k1.stay hO2 (fun q hq e=>by have:=(World.ownsRow.lt k1.1 q hq).1;have:=HEB.o;omega)) (by have:=HTL.o;omega);rw [HI.2];exact h3
 ·exact k2.rd (by have:=congrArg List.length HI.1.marks;have:=HI.1.len;simp at this ⊢;simp at *;omega)
 ·rw [List.map_cons,HI.1.marks]
 rw [HI.1.len];exact HI.1.most
theorem zdH (v:Value) (b:Bs) (w:World) (h:Rd w v b) (hT:Tabs w) (hF:Frs w) :
  Calls prog 35 #[v] w (znW w b):=by
 obtain ⟨N1,N2⟩:=za7 w (.cells #[.slice none 0 0,.slice none 0 0] 27);obtain ⟨w0,hw0⟩:=nm_ (w.alloc (.cells #[.slice none 0 0,.slice none 0 0] 27));rw [<- hw0] at N1 N2;obtain ⟨rb,hrb⟩:=nm_ w.heap.size;rw [<- hrb] at N1;have HR0:=h_ (show Tbox w0 rb (.slice none 0 0) (.slice none 0 0) from N1);have HB0:=h_ N2;have HW0:=h_ hw0;have HRB:=h_ hrb;have RD:=h_ (zu4 v b w0 (h.later N2 l_) (hT.later N2) (hF.later N2));clear N1 N2 hw0 hrb h hT hF;unfold zl7 at RD;unfold znW;generalize trD b=D at RD ⊢;obtain ⟨cs,es,ms,p,y⟩:=D;dsimp only at RD ⊢;go_enter func35,ntmps35;go_wp2_with fail;rw [<- HW0.o,<- HRB.o];refine RD.mono ?_;rintro e w1 ⟨hb,tv,xv,rfl,hT,hC,_⟩;obtain ⟨sv,ev,rfl,hR,hZ⟩:=hT w1 (Only.refl _ _);obtain ⟨ae,ne,ce,rfl⟩:=hZ.lit;obtain ⟨ac,nc,cc,rfl⟩:=hR.lit12;have M2:Below w1.heap.size w1 (w1.alloc (.cells #[.slice ac nc cc,.slice ae ne ce] 27)):=(Below.refl _ _).alloc l_ _;have HR2:=h_ ((HR0.later hb).later M2);have HB2:=h_ (HB0.trans ((hb.trans (M2.mono hb.size)).mono HB0.size));have HM2:=h_ M2;have HT:=h_ hT;have HC:=h_ hC;have HLT:=h_ HR0.lt;obtain ⟨r0,r1⟩:=HR2.cells;have f0:=HR2.free 0;have f1:=HR2.free 1;clear hb hR hZ hT hC RD M2 HR0;go_wp2;obtain ⟨w9,hw9⟩:=nm_ (((w1.alloc (.cells #[.slice ac nc cc,.slice ae ne ce] 27)).setCell ⟨rb,0,none⟩ (.slice ac nc cc)).setCell ⟨rb,1,none⟩ (.slice ae ne ce));rw [<- hw9];obtain ⟨e0,e1⟩:=(show Tbox w9 rb (.slice ac nc cc) (.slice ae ne ce) from by rw [hw9];exact HR2.both _ _).cells;have HB9:Below w.heap.size w w9:=by rw [hw9];exact (HB2.setCell (p:=⟨rb,0,none⟩) (by rw [<- HRB.o];exact l_) _).setCell (p:=⟨rb,1,none⟩) (by rw [<- HRB.o];exact l_) _
 have hO9:Only (fun j=>j < w0.heap.size) w1 w9:=by rw [hw9];exact ((ze3 HM2.o l_).setCell (p:=⟨rb,0,none⟩) HLT.o _).setCell (p:=⟨rb,1,none⟩) HLT.o _
 refine bodyPost_ret (by simp [results,results35,go_sem,e0,e1];try rfl) rfl ?_;exact ⟨_,rfl,fun wz hz=>HT.o wz (hO9.trans (hz.mono fun j h=>Nat.lt_of_lt_of_le h HB0.size)),HC.o,HB9⟩
/- -/
section
variable {w w':World} {v:Value} {es:List EntB}
end
theorem zqT {w:World} {cu:List CurB} {ops:Array Oper} {Q:Exit->Act->World->Prop} {rest:List Oper} {a:Act} {dst:Option Tmp} {ty:TypeId} {pos:String} {aft:Array Edge} {s x:Operand}
  (base:Nat) (sv:Value) (hs:a.eval s=sv) (ho:OwnG zc9 w base sv (cu.map cuV)) (g:Nat) (y:CurB) (hx:a.eval x=.slice (some ⟨g,0,none⟩) 1 1) (hg:w.heap[g]?=some (.cells #[.int .i64 y.1,.int .i64 y.2.1,.int .u32 y.2.2] 117 (0,0)))
  (hn:(cu.length + 1) * 24<=140737488355328) (hbase:base<=w.heap.size)
  (B:Nat) (w0:World) (hb:Below B w0 w) (hBb:B<=base)
  (h:∀ v' w',OwnG zc9 w' base v' ((cu ++ [y]).map cuV)->Below B w0 w'->w.grownBy w' sv.ownBlock->Place w sv v'->wpList prog ops Q rest (a.put dst v') w') :
  wpList prog ops Q (⟨dst,.call ⟨.builtin .append,#[s,x],#[112,112]⟩,ty,pos,aft,none⟩ :: rest) a w:=by
 refine zbA znP base sv hs ho _ hx (zgS znP (cuV y) rfl ⟨g,0,none⟩ ⟨g,0,rfl⟩ fun j z hj=>?_) ?_ (by simp;exact hn) (by simp;omega) hbase B w0 hb hBb (fun v' w' h1 h2 h3 h4=>h v' w' (by rw [List.map_append];exact h1) h2 h3 h4)
 ·have e:Addr.add ⟨g,0,none⟩ j=⟨g,j,none⟩:=by simp only [Addr.add];split <;> simp_all
  rw [e,cell_of_row _ _ _ _ _ _ hg];simpa [cuV] using hj
 intro z hz u hu;rw [List.mem_singleton.1 hz] at hu;simp [cuV] at hu;rcases hu with rfl | rfl | rfl <;> rfl
