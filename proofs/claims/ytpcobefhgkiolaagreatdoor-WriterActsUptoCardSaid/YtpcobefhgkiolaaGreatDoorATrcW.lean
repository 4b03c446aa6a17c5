/- -/
import Derived.Test.YtpcobefhgkiolaaGreatDoorATrcP
import Derived.Test.YtpcobefhgkiolaaGreatDoorAEntN
import Derived.Test.YtpcobefhgkiolaaGreatDoorASchW
import Derived.Test.YtpcobefhgkiolaaGreatDoorAFrame
import Derived.Test.YtpcobefhgkiolaaGreatDoorAAppFull
import Derived.Deep.QuietTactic
import Derived.BigQuiet
import Derived.Deep.RegionHeld3
import Derived.Test.YtpcobefhgkiolaaGreatDoorATrcS
import Derived.Test.YtpcobefhgkiolaaGreatDoorABatW
import Derived.Test.YtpcobefhgkiolaaGreatDoorATrcL
set_option linter.unusedVariables false
set_option linter.unusedSimpArgs false
set_option maxRecDepth 1000000
namespace Go.Proofs.YtpcobefhgkiolaaGreatDoor
open Go.RowKit Go.Shelf
set_option maxHeartbeats 4000000 in
theorem trace_Head (v:Value) (cs:List ColB) (w:World) (hR:RdC w v cs) (hC:CS cs) (hT:Tabs w) :
  Calls Tryz.prog 37 #[v] w (RetW w (hdW (colsL cs))):=by
 have SC:=fun wz (hz:Below w.heap.size w wz)=>schema_Write v cs wz (hR.later hz l_) hC (hT.later hz)
 have hH:hdW (colsL cs)=if errS (colsL cs)≠0 then ([],errS (colsL cs)) else (hdB (colsL cs),0):=rfl
 by_cases h0:errS (colsL cs)=0
 ·rw [if_neg (fun h=>h h0)] at hH
  have hsm:=wrS_million h0
  have hwf:wrF 0 (wrS (colsL cs))=(frB 0 (wrS (colsL cs)),0):=by unfold wrF;rw [if_neg (by omega),if_neg (by omega)];rfl
  have hfs:=frB_small 0 hsm
  have hfp:=frB_pos 0 (wrS (colsL cs))
  have hH:hdW (colsL cs)=([68,75,76,49] ++ frB 0 (wrS (colsL cs)),0):=hH
  obtain ⟨L,hL⟩:∃ L,L=wrS (colsL cs):=⟨_,rfl⟩
  have SW:=h_ (fun wz (hz:Below w.heap.size w wz)=>(SC wz hz).mono (fun e w' h=>show ∃ u,e=.returned (.tuple #[u,.int .i64 ((0:Nat):Int)])∧Below wz.heap.size wz w'∧Own w' wz.heap.size u L from by
   obtain ⟨u,he,hb,hq⟩:=h
   rw [h0] at he hq
   rcases hq with ⟨h9,_⟩ | ⟨_,ho⟩
   ·exact absurd rfl h9
   ·exact ⟨u,he,hb,by rw [hL];exact ho⟩))
  rw [← hL] at hsm hwf hfs hfp hH
  rw [hH]
  have FW:=h_ (fun u wz (h:Rd wz u L)=>by have:=frame_Write 0 u L wz h;rw [hwf] at this;exact this)
  have HSM:=h_ (And.intro hsm (And.intro hfs hfp))
  obtain ⟨F,hF⟩:∃ F,F=frB 0 L:=⟨_,rfl⟩
  rw [← hF] at FW HSM ⊢
  clear hsm hwf hfs hfp hH hL hF hR hC hT SC h0
  go_enter Tryz.func37,Tryz.ntmps37
  go_wp2_with fail
  refine (SW.out w (Below.refl _ _)).mono ?_
  rintro e w2 ⟨bv,rfl,hb,hO⟩
  have HB2:=h_ hb
  have HR2:=h_ (hO.rd (by have:=HSM.out;omega))
  clear hb hO SW
  go_wp2_with fail
  refine (FW.out bv w2 HR2.out).mono ?_
  rintro e w3 ⟨fv,rfl,hO,hb⟩
  replace hO:Own w3 w2.heap.size fv F:=hO
  have HB3:=h_ (HB2.out.trans (hb.mono HB2.out.size))
  have HO3:=h_ hO
  have hcv:=Lib.run_convert_bytes_const (P:=Tryz.prog) w3 36 5 #[.int .u8 68,.int .u8 75,.int .u8 76,.int .u8 49] 4 4 Tryz.underlying36 Tryz.underlying5
  have h4:=rd_lit w3 [68,75,76,49] (by decide) (4,5)
  have hb0:Below w.heap.size w (w3.alloc (.cells #[.int .u8 68,.int .u8 75,.int .u8 76,.int .u8 49] 5 (4,5))):=HB3.out.alloc HB3.out.size _
  have hr0:=(hO.rd (by have:=HSM.out;omega)).alloc (.cells #[.int .u8 68,.int .u8 75,.int .u8 76,.int .u8 49] 5 (4,5))
  have hs0:w.heap.size≤w3.heap.size:=HB3.out.size
  clear hb hO FW HB2 HR2
  go_wp2_with (refine wpl_appendFull w3.heap.size 4 [68,75,76,49] F ?hs h4 fv ?hx hr0 ?hp ?hf ?hn w.heap.size w hb0 ?hz ?_)
  case hs=>rfl
  case hx=>rfl
  case hp=>have:=HSM.out;omega
  case hf=>have:=HSM.out;simp;omega
  case hn=>have:=HSM.out;simp;omega
  case hz=>simp;omega
  intro v4 w4 ho4 hb4
  have HO4:=h_ (ho4.base (base':=w.heap.size) (by simp;omega))
  have HB4:=h_ hb4
  clear hb0 hr0 h4 hcv ho4 hb4
  go_wp2
  go_ret2
  exact ⟨_,rfl,HO4.out,HB4.out⟩
 ·rw [if_pos h0] at hH
  obtain ⟨E,hE⟩:∃ E,E=errS (colsL cs):=⟨_,rfl⟩
  have SW:=h_ (fun wz (hz:Below w.heap.size w wz)=>(SC wz hz).mono (fun e w' h=>show ∃ u,e=.returned (.tuple #[u,.int .i64 (E:Int)])∧Below wz.heap.size wz w' from by
   obtain ⟨u,he,hb,hq⟩:=h
   exact ⟨u,by rw [hE];exact he,hb⟩))
  rw [← hE] at hH h0
  have q:((E:Int) != 0)=true:=by rw [bne_iff_ne];omega
  have HH:=h_ hH
  clear hH hE hR hC hT SC
  go_enter Tryz.func37,Tryz.ntmps37
  go_wp2_with fail
  refine (SW.out w (Below.refl _ _)).mono ?_
  rintro e w1 ⟨u,rfl,hb⟩
  have HB1:=h_ hb
  clear hb SW
  go_wp2
  go_ret2
  rw [HH.out]
  exact ⟨_,rfl,own_nil _ _,HB1.out⟩
theorem Own.lit13 {w:World} {base:Nat} {v:Value} {l:List UInt8} (h:Own w base v l):∃ ao n cap,v=.slice ao n cap:=by
 rcases h.2 with ⟨rfl,_⟩ | ⟨g,cap,cur,rfl,_⟩
 ·exact ⟨_,_,_,rfl⟩
 ·exact ⟨_,_,_,rfl⟩
section
variable {w w':World} {g b:Nat} {sv vv ov:Value} {s:Int}
end
theorem hidOnly {S:Nat→Prop} {w w':World} {B:Nat} (h:Below B w w') (hB:w.heap.size≤B):Only S w w':=(Only.refl S w).below h hB
end Go.Proofs.YtpcobefhgkiolaaGreatDoor


/- -/
namespace Go.Proofs.YtpcobefhgkiolaaGreatDoor
open Go.RowKit Go.Shelf
end Go.Proofs.YtpcobefhgkiolaaGreatDoor


/- -/
namespace Go.Proofs.YtpcobefhgkiolaaGreatDoor
open Go.RowKit Go.Shelf
end Go.Proofs.YtpcobefhgkiolaaGreatDoor

