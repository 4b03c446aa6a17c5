/- -/
import Derived.Test.YtpcobefhgkiolaaGreatDoorCTrcP
import Derived.Test.YtpcobefhgkiolaaGreatDoorCEntN
import Derived.Test.YtpcobefhgkiolaaGreatDoorCSchW
import Derived.Test.YtpcobefhgkiolaaGreatDoorCFrame
import Derived.Test.YtpcobefhgkiolaaGreatDoorCAppFull
import Derived.Deep.QuietTactic
import Derived.BigQuiet
import Derived.Deep.RegionHeld3
import Derived.Test.YtpcobefhgkiolaaGreatDoorCTrcS
import Derived.Test.YtpcobefhgkiolaaGreatDoorCBatW
import Derived.Test.YtpcobefhgkiolaaGreatDoorCTrcL
set_option linter.unusedVariables false
set_option linter.unusedSimpArgs false
set_option maxRecDepth 1000000
namespace Go.Proofs.YtpcobefhgkiolaaGreatDoor
open Go.RowKit Go.Shelf
set_option maxHeartbeats 4000000 in
theorem trace_Head (v:Value) (cs:List ColB) (w:World) (hR:RdC w v cs) (hC:CS cs) (hT:Tabs w) :
  Calls Tryz.prog 37 #[v] w (RetW w (hdW (colsL cs))):=by
 have SC:=fun wz (hz:Below w.heap.size w wz)=>schema_Write v cs wz (hR.later hz l_) hC (hT.later hz)
 have hH:hdW (colsL cs)=if errS (colsL cs)≠0 then ([],errS (colsL cs)) else (hdB (colsL cs),0):=rfl
 by_cases h0:errS (colsL cs)=0
 ·rw [if_neg (fun h=>h h0)] at hH
  have hsm:=wrS_million h0
  have hwf:wrF 0 (wrS (colsL cs))=(frB 0 (wrS (colsL cs)),0):=by unfold wrF;rw [if_neg (by omega),if_neg (by omega)];rfl
  have hfs:=frB_small 0 hsm
  have hfp:=frB_pos 0 (wrS (colsL cs))
  have hH:hdW (colsL cs)=([68,75,76,49] ++ frB 0 (wrS (colsL cs)),0):=hH
  obtain ⟨L,hL⟩:∃ L,L=wrS (colsL cs):=⟨_,rfl⟩
  have SW:=h_ (fun wz (hz:Below w.heap.size w wz)=>(SC wz hz).mono (fun e w' h=>show ∃ u,e=.returned (.tuple #[u,.int .i64 ((0:Nat):Int)])∧Below wz.heap.size wz w'∧Own w' wz.heap.size u L from by
   obtain ⟨u,he,hb,hq⟩:=h
   rw [h0] at he hq
   rcases hq with ⟨h9,_⟩ | ⟨_,ho⟩
   ·exact absurd rfl h9
   ·exact ⟨u,he,hb,by rw [hL];exact ho⟩))
  rw [← hL] at hsm hwf hfs hfp hH
  rw [hH]
  have FW:=h_ (fun u wz (h:Rd wz u L)=>by have:=frame_Write 0 u L wz h;rw [hwf] at this;exact this)
  have HSM:=h_ (And.intro hsm (And.intro hfs hfp))
  obtain ⟨F,hF⟩:∃ F,F=frB 0 L:=⟨_,rfl⟩
  rw [← hF] at FW HSM ⊢
  clear hsm hwf hfs hfp hH hL hF hR hC hT SC h0
  go_enter Tryz.func37,Tryz.ntmps37
  go_wp2_with fail
  refine (SW.out w (Below.refl _ _)).mono ?_
  rintro e w2 ⟨bv,rfl,hb,hO⟩
  have HB2:=h_ hb
  have HR2:=h_ (hO.rd (by have:=HSM.out;omega))
  clear hb hO SW
  go_wp2_with fail
  refine (FW.out bv w2 HR2.out).mono ?_
  rintro e w3 ⟨fv,rfl,hO,hb⟩
  replace hO:Own w3 w2.heap.size fv F:=hO
  have HB3:=h_ (HB2.out.trans (hb.mono HB2.out.size))
  have HO3:=h_ hO
  have hcv:=Lib.run_convert_bytes_const (P:=Tryz.prog) w3 36 5 #[.int .u8 68,.int .u8 75,.int .u8 76,.int .u8 49] 4 4 Tryz.underlying36 Tryz.underlying5
  have h4:=rd_lit w3 [68,75,76,49] (by decide) (4,5)
  have hb0:Below w.heap.size w (w3.alloc (.cells #[.int .u8 68,.int .u8 75,.int .u8 76,.int .u8 49] 5 (4,5))):=HB3.out.alloc HB3.out.size _
  have hr0:=(hO.rd (by have:=HSM.out;omega)).alloc (.cells #[.int .u8 68,.int .u8 75,.int .u8 76,.int .u8 49] 5 (4,5))
  have hs0:w.heap.size≤w3.heap.size:=HB3.out.size
  clear hb hO FW HB2 HR2
  go_wp2_with (refine wpl_appendFull w3.heap.size 4 [68,75,76,49] F ?hs h4 fv ?hx hr0 ?hp ?hf ?hn w.heap.size w hb0 ?hz ?_)
  case hs=>rfl
  case hx=>rfl
  case hp=>have:=HSM.out;omega
  case hf=>have:=HSM.out;simp;omega
  case hn=>have:=HSM.out;simp;omega
  case hz=>simp;omega
  intro v4 w4 ho4 hb4
  have HO4:=h_ (ho4.base (base':=w.heap.size) (by simp;omega))
  have HB4:=h_ hb4
  clear hb0 hr0 h4 hcv ho4 hb4
  go_wp2
  go_ret2
  exact ⟨_,rfl,HO4.out,HB4.out⟩
 ·rw [if_pos h0] at hH
  obtain ⟨E,hE⟩:∃ E,E=errS (colsL cs):=⟨_,rfl⟩
  have SW:=h_ (fun wz (hz:Below w.heap.size w wz)=>(SC wz hz).mono (fun e w' h=>show ∃ u,e=.returned (.tuple #[u,.int .i64 (E:Int)])∧Below wz.heap.size wz w' from by
   obtain ⟨u,he,hb,hq⟩:=h
   exact ⟨u,by rw [hE];exact he,hb⟩))
  rw [← hE] at hH h0
  have q:((E:Int) != 0)=true:=by rw [bne_iff_ne];omega
  have HH:=h_ hH
  clear hH hE hR hC hT SC
  go_enter Tryz.func37,Tryz.ntmps37
  go_wp2_with fail
  refine (SW.out w (Below.refl _ _)).mono ?_
  rintro e w1 ⟨u,rfl,hb⟩
  have HB1:=h_ hb
  clear hb SW
  go_wp2
  go_ret2
  rw [HH.out]
  exact ⟨_,rfl,own_nil _ _,HB1.out⟩
theorem Own.lit13 {w:World} {base:Nat} {v:Value} {l:List UInt8} (h:Own w base v l):∃ ao n cap,v=.slice ao n cap:=by
 rcases h.2 with ⟨rfl,_⟩ | ⟨g,cap,cur,rfl,_⟩
 ·exact ⟨_,_,_,rfl⟩
 ·exact ⟨_,_,_,rfl⟩
def Abox (w:World) (g:Nat) (sv:Value) (s:Int) (vv:Value):Prop:=w.heap[g]?=some (.cells #[sv,.int .i64 s,vv] 142 (0,0))
section
variable {w w':World} {g b:Nat} {sv vv ov:Value} {s:Int}
theorem Abox.cells (h:Abox w g sv s vv):w.cell? ⟨g,0,none⟩=some sv∧w.cell? ⟨g,1,none⟩=some (.int .i64 s)∧w.cell? ⟨g,2,none⟩=some vv :=
 ⟨cell_of_row _ _ 0 _ _ _ h,cell_of_row _ _ 1 _ _ _ h,cell_of_row _ _ 2 _ _ _ h⟩
theorem Abox.free (h:Abox w g sv s vv) (i:Nat):w.frozen? ⟨g,i,none⟩=false:=frozen_of_row _ _ _ _ _ h
theorem Abox.lt (h:Abox w g sv s vv):g < w.heap.size:=(Array.getElem?_eq_some_iff.1 h).1
theorem Abox.later (h:Abox w g sv s vv) (hb:Below w.heap.size w w'):Abox w' g sv s vv:=(hb.block g h.lt).trans h
theorem Abox.set (h:Abox w g sv s vv) (n:Int) (u:Value):Abox ((w.setCell ⟨g,1,none⟩ (.int .i64 n)).setCell ⟨g,2,none⟩ u) g sv n u:=by
 have:=block_setCell (k:=2) (block_setCell (k:=1) h (.int .i64 n)) u
 unfold Abox;simpa using this
end
def TkO (w:World) (g:Nat) (sv vv:Value) (cs:List ColB) (s:Int) (v:List PairB) (x:EntB) (e:Ending) (w':World):Prop :=
 e=.returned (.int .i64 (apE cs s v x:Nat))∧Only (fun j=>j=g) w w' ∧
  ((apE cs s v x≠0∧Abox w' g sv s vv)∨(apE cs s v x=0∧∃ vn,Abox w' g sv (apN cs s v x) vn∧NewP w' w.heap.size vn (apV cs s v x)))
theorem hidOnly {S:Nat→Prop} {w w':World} {B:Nat} (h:Below B w w') (hB:w.heap.size≤B):Only S w w':=(Only.refl S w).below h hB
set_option maxHeartbeats 8000000 in
theorem trace_take (g:Nat) (sv vv ev:Value) (cs:List ColB) (s:Int) (v:List PairB) (x:EntB) (w:World) (hA:Abox w g sv s vv) (hR:RdC w sv cs) (hV:RdP w vv v) (hE:RdN w ev x) (hC:CS cs) (hVO:PSO v) (hX:EnO x) (hq:inW s) (hT:Tabs w) :
  Calls Tryz.prog 80 #[.pointer (some ⟨g,0,none⟩),ev] w (TkO w g sv vv cs s v x):=by
 obtain ⟨kd,s2,ps⟩:=x
 obtain ⟨pv,rfl,hP⟩:=hE
 dsimp only at hP
 obtain ⟨ap,np,cp,rfl⟩:=hP.lit12
 obtain ⟨av,nv,cv,rfl⟩:=hV.lit12
 obtain ⟨ac,nc,cc,rfl⟩:=hR.lit12
 obtain ⟨N1,N2⟩:=new_one12 w (.cells #[.int .i64 kd,.int .i64 s2,.slice ap np cp] 70)
 obtain ⟨w0,hw0⟩:∃ w0,w0=w.alloc (.cells #[.int .i64 kd,.int .i64 s2,.slice ap np cp] 70):=⟨_,rfl⟩
 rw [← hw0] at N1 N2
 obtain ⟨eb,hg⟩:∃ eb,eb=w.heap.size:=⟨_,rfl⟩
 rw [← hg] at N1
 have HE0:=h_ (show Ebox w0 eb kd s2 (.slice ap np cp) from N1)
 have HA0:=h_ (hA.later N2)
 have HB0:=h_ N2
 have HW0:=h_ hw0
 have HG:=h_ hg
 have hgl:=hA.lt
 have AP:=h_ (fun wz (hz:Below w0.heap.size w0 wz)=>by
  have hz':Below w.heap.size w wz:=N2.trans (hz.mono N2.size)
  exact (entry_ApplyN (.slice ac nc cc) (.slice av nv cv) (.agg #[.int .i64 kd,.int .i64 s2,.slice ap np cp]) cs s v (kd,s2,ps) wz (hR.later hz' l_) (hV.later hz' l_) ⟨_,rfl,hP.later hz' l_⟩ hC hVO hX hq (hT.later hz')).mono
   (fun e w' h=>show (∃ rv,e=.returned (.tuple #[.int .i64 (apN cs s v (kd,s2,ps)),rv,.int .i64 (apE cs s v (kd,s2,ps):Nat)])∧NewP w' w.heap.size rv (apV cs s v (kd,s2,ps)))∧Below w0.heap.size w0 w' from by
    obtain ⟨rv,he,hn,hb⟩:=h
    exact ⟨⟨rv,he,hn.lower hz'.size⟩,hz.trans (hb.mono hz.size)⟩))
 obtain ⟨E,hEd⟩:∃ E,E=apE cs s v (kd,s2,ps):=⟨_,rfl⟩
 obtain ⟨V,hVd⟩:∃ V,V=apV cs s v (kd,s2,ps):=⟨_,rfl⟩
 obtain ⟨S,hSd⟩:∃ S,S=apN cs s v (kd,s2,ps):=⟨_,rfl⟩
 unfold TkO
 rw [← hEd,← hVd,← hSd]
 rw [← hEd,← hVd,← hSd] at AP
 have Q:=h_ (fun wz (hz:Below w0.heap.size w0 wz)=>And.intro hz (And.intro (HA0.out.later hz).cells.1 (And.intro (HA0.out.later hz).cells.2.1 (And.intro (HA0.out.later hz).cells.2.2 (And.intro (HE0.out.later hz).cells.1 (And.intro (HE0.out.later hz).cells.2.1 (HE0.out.later hz).cells.2.2))))))
 clear N1 N2 hw0 hg hEd hVd hSd hR hV hP hC hVO hX hq hT hA
 have m0:Below w0.heap.size w0 w0.drew:=(Below.refl _ _).drew
 by_cases hE0:E=0
 ·subst hE0
  go_enter Tryz.func80,Tryz.ntmps80
  go_wp2_with fail
  rw [← HW0.out,← HG.out]
  go_region_held3 (fun z=>Below w0.heap.size w0 z∧z.cell? ⟨g,0,none⟩=some (.slice ac nc cc)∧z.cell? ⟨g,1,none⟩=some (.int .i64 s)∧z.cell? ⟨g,2,none⟩=some (.slice av nv cv)∧z.cell? ⟨eb,0,none⟩=some (.int .i64 kd)∧z.cell? ⟨eb,1,none⟩=some (.int .i64 s2)∧z.cell? ⟨eb,2,none⟩=some (.slice ap np cp)) (first | (exact Q.out _ m0) | go_keep)
   ((first
    | (go_at_call 70;refine (AP.out _ (by assumption)).mono ?_;rintro e w6 ⟨⟨rv,rfl,hrv⟩,m3⟩;clear m0;have m0:=m3;clear m3)))
  obtain ⟨ar,nr,cr,rfl⟩:=hrv.rd.lit12
  have hA6:=HA0.out.later m0
  obtain ⟨c0,c1,c2⟩:=hA6.cells
  have f1:=hA6.free 1
  have f2:=hA6.free 2
  have HA6:=h_ hA6
  have HB6:=h_ (HB0.out.trans (m0.mono HB0.out.size))
  have HR6:=h_ hrv
  clear hA6 m0 hrv AP Q HE0 HA0
  go_wp2
  go_ret
  have hO:Only (fun j=>j=g) w ((w6.setCell ⟨g,1,none⟩ (.int .i64 S)).setCell ⟨g,2,none⟩ (.slice ar nr cr)):=((hidOnly (S:=fun j=>j=g) HB6.out l_).setCell (p:=⟨g,1,none⟩) rfl _).setCell (p:=⟨g,2,none⟩) rfl _
  have hO6:Only (fun j=>j=g) w6 ((w6.setCell ⟨g,1,none⟩ (.int .i64 S)).setCell ⟨g,2,none⟩ (.slice ar nr cr)):=((Only.refl (fun j=>j=g) _).setCell (p:=⟨g,1,none⟩) rfl _).setCell (p:=⟨g,2,none⟩) rfl _
  exact ⟨rfl,hO,.inr ⟨by trivial,_,HA6.out.set S _,HR6.out.only hO6 (fun q hq hh=>by omega)⟩⟩
 ·have q:((E:Int) != 0)=true:=by rw [bne_iff_ne];omega
  have HN:=h_ hE0
  clear hE0
  go_enter Tryz.func80,Tryz.ntmps80
  go_wp2_with fail
  rw [← HW0.out,← HG.out]
  go_region_held3 (fun z=>Below w0.heap.size w0 z∧z.cell? ⟨g,0,none⟩=some (.slice ac nc cc)∧z.cell? ⟨g,1,none⟩=some (.int .i64 s)∧z.cell? ⟨g,2,none⟩=some (.slice av nv cv)∧z.cell? ⟨eb,0,none⟩=some (.int .i64 kd)∧z.cell? ⟨eb,1,none⟩=some (.int .i64 s2)∧z.cell? ⟨eb,2,none⟩=some (.slice ap np cp)) (first | (exact Q.out _ m0) | go_keep)
   ((first
    | (go_at_call 70;refine (AP.out _ (by assumption)).mono ?_;rintro e w6 ⟨⟨rv,rfl,hrv⟩,m3⟩;clear m0;have m0:=m3;clear m3)))
  have HA6:=h_ (HA0.out.later m0)
  have HB6:=h_ (HB0.out.trans (m0.mono HB0.out.size))
  clear m0 hrv AP Q HE0 HA0
  go_wp2
  go_ret
  exact ⟨rfl,hidOnly HB6.out l_,.inl ⟨HN.out,HA6.out⟩⟩
end Go.Proofs.YtpcobefhgkiolaaGreatDoor


/- -/
namespace Go.Proofs.YtpcobefhgkiolaaGreatDoor
open Go.RowKit Go.Shelf
end Go.Proofs.YtpcobefhgkiolaaGreatDoor


/- -/
namespace Go.Proofs.YtpcobefhgkiolaaGreatDoor
open Go.RowKit Go.Shelf
end Go.Proofs.YtpcobefhgkiolaaGreatDoor

