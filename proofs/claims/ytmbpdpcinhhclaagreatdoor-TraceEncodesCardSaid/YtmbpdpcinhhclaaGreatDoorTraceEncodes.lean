/- -/
import Derived.Test.YtmbpdpcinhhclaaGreatDoorETrcS
import Derived.Test.YtmbpdpcinhhclaaGreatDoorECrc
set_option linter.unusedVariables false
set_option linter.unusedSimpArgs false
set_option maxRecDepth 1000000
namespace Go.Proofs.YtmbpdpcinhhclaaGreatDoor
open Go.RowKit Go.Shelf
set_option maxHeartbeats 8000000 in
theorem traceEncodes_K (v:Value) (cs:List ColB) (es:List EntB) (w:World) (hT:RdT13 w v cs es) (hC:CS cs) (hO:∀ x ∈ es,EnO x) (K:TrcK w) :
  Calls Tryz.prog 3 #[v] w fun e w'=>e=.returned (.bool true)∧Below w.heap.size w w':=by
 obtain ⟨sv,ev,rfl,hR,hZ⟩:=hT
 obtain ⟨ae,ne,ce,rfl⟩:=hZ.lit
 obtain ⟨ac,nc,cc,rfl⟩:=hR.lit12
 have HT:=h_ (fun wz (hz:Below w.heap.size w wz)=>show RdT13 wz (.agg #[.slice ac nc cc,.slice ae ne ce]) cs es from ⟨_,_,rfl,hR.later hz l_,hZ.later hz l_⟩)
 have HRC:=h_ (fun wz (hz:Below w.heap.size w wz)=>hR.later hz l_)
 obtain ⟨N1,N2⟩:=new_one12 w (.cells #[.slice ac nc cc,.slice ae ne ce] 25)
 have HX:=h_ (show Tbox (w.alloc (.cells #[.slice ac nc cc,.slice ae ne ce] 25)) w.heap.size (.slice ac nc cc) (.slice ae ne ce) from N1)
 have HB:=h_ N2
 have HC:=h_ hC
 have HO:=h_ hO
 clear hR hZ N1 N2 hC hO
 go_enter Tryz.func3,Tryz.ntmps3
 go_wp2_with fail
 generalize w.alloc (.cells #[.slice ac nc cc,.slice ae ne ce] 25)=w0 at *
 obtain ⟨g,hg⟩:∃ g,g=w.heap.size:=⟨_,rfl⟩
 rw [← hg] at HX
 rw [← hg]
 have HG:=h_ hg
 clear hg
 refine (K.alive w0 HB.out).mono ?_
 rintro e w1 ⟨rfl,hb⟩
 replace HX:=h_ (HX.out.later hb)
 replace HB:=h_ (HB.out.trans (hb.mono HB.out.size))
 clear hb
 obtain ⟨c0,c1⟩:=HX.out.cells
 go_wp2_with fail
 refine (law13_great _ cs es w1 (HT.out w1 HB.out)).mono ?_
 rintro e w2 ⟨x,rfl,hx,hf,hb⟩
 replace HX:=h_ (HX.out.later hb)
 replace HB:=h_ (HB.out.trans (hb.mono HB.out.size))
 clear hb c0 c1
 obtain ⟨c0,c1⟩:=HX.out.cells
 rcases hx with rfl | rfl
 ·have hfew:=hf rfl
  have hes:=hfew.1
  have hsm:=trE_small (cs:=cs) (es:=es) (by omega)
  have hhs:=hdW_small (colsL cs)
  obtain ⟨R,hRR⟩:∃ R,R=trE cs es:=⟨_,rfl⟩
  obtain ⟨D,hDD⟩:∃ D,D=hdW (colsL cs):=⟨_,rfl⟩
  have EA:=h_ (fun wz hz=>K.encode wz _ cs es hz (HT.out wz hz) HC.out HO.out)
  have EB:=h_ (fun wz hz=>ref_Encode13 _ cs es wz (HT.out wz hz) HC.out HO.out)
  have VA:=h_ (fun wz hz=>K.view wz _ cs es hz (HT.out wz hz) HC.out HO.out)
  have VB:=h_ (fun wz hz=>ref_View13 _ cs es wz (HT.out wz hz) HC.out HO.out)
  have DA:=h_ (fun wz hz=>K.head wz (.slice ac nc cc) cs hz (HRC.out wz hz) HC.out)
  have DB:=h_ (fun wz hz=>ref_Head13 (.slice ac nc cc) cs wz (HRC.out wz hz) HC.out)
  rw [← hRR] at EA EB VA VB hsm
  rw [← hDD] at DA DB hhs
  obtain ⟨r,s,vw,i,y⟩:=R
  obtain ⟨q,z⟩:=D
  dsimp only at hsm hhs
  have HSM:=h_ (And.intro hsm hhs)
  clear hf hfew hes hRR hDD hsm hhs K
  go_wp2_with fail
  refine (EA.out w2 HB.out).mono ?_
  rintro e w3 ⟨bv,rfl,ho,hb⟩
  replace HX:=h_ (HX.out.later hb)
  replace HB:=h_ (HB.out.trans (hb.mono HB.out.size))
  have HA:=h_ (show Rd w3 bv r from ho.rd (by have:=HSM.out.1;dsimp only;omega))
  clear hb ho c0 c1 EA
  obtain ⟨c0,c1⟩:=HX.out.cells
  go_wp2_with fail
  refine (EB.out w3 HB.out).mono ?_
  rintro e w4 ⟨cv,rfl,ho,hb⟩
  replace HX:=h_ (HX.out.later hb)
  replace HB:=h_ (HB.out.trans (hb.mono HB.out.size))
  replace HA:=h_ (And.intro (HA.out.later hb l_) (show Rd w4 cv r from ho.rd (by have:=HSM.out.1;dsimp only;omega)))
  clear hb ho c0 c1 EB
  obtain ⟨c0,c1⟩:=HX.out.cells
  go_wp2_with fail
  refine (VA.out w4 HB.out).mono ?_
  rintro e w5 ⟨va,rfl,hv,hb⟩
  replace HX:=h_ (HX.out.later hb)
  replace HB:=h_ (HB.out.trans (hb.mono HB.out.size))
  replace HA:=h_ (And.intro (HA.out.1.later hb l_) (HA.out.2.later hb l_))
  have HV:=h_ (show RdP w5 va vw from hv)
  clear hb hv c0 c1 VA
  obtain ⟨c0,c1⟩:=HX.out.cells
  go_wp2_with fail
  refine (VB.out w5 HB.out).mono ?_
  rintro e w6 ⟨vb,rfl,hv,hb⟩
  replace HX:=h_ (HX.out.later hb)
  replace HB:=h_ (HB.out.trans (hb.mono HB.out.size))
  replace HA:=h_ (And.intro (HA.out.1.later hb l_) (HA.out.2.later hb l_))
  replace HV:=h_ (And.intro (HV.out.later hb l_) (show RdP w6 vb vw from hv))
  clear hb hv c0 c1 VB
  obtain ⟨c0,c1⟩:=HX.out.cells
  go_wp2_with fail
  refine (DA.out w6 HB.out).mono ?_
  rintro e w7 ⟨xv,rfl,ho,hb⟩
  replace HX:=h_ (HX.out.later hb)
  replace HB:=h_ (HB.out.trans (hb.mono HB.out.size))
  replace HA:=h_ (And.intro (HA.out.1.later hb l_) (HA.out.2.later hb l_))
  replace HV:=h_ (And.intro (HV.out.1.later hb l_) (HV.out.2.later hb l_))
  have HD:=h_ (show Rd w7 xv q from ho.rd (by have:=HSM.out.2;dsimp only;omega))
  clear hb ho c0 c1 DA
  obtain ⟨c0,c1⟩:=HX.out.cells
  go_wp2_with fail
  refine (DB.out w7 HB.out).mono ?_
  rintro e w8 ⟨yv,rfl,ho,hb⟩
  replace HB:=h_ (HB.out.trans (hb.mono HB.out.size))
  replace HA:=h_ (And.intro (HA.out.1.later hb l_) (HA.out.2.later hb l_))
  replace HV:=h_ (And.intro (HV.out.1.later hb l_) (HV.out.2.later hb l_))
  replace HD:=h_ (And.intro (HD.out.later hb l_) (show Rd w8 yv q from ho.rd (by have:=HSM.out.2;dsimp only;omega)))
  clear hb ho c0 c1 DB HX
  have hs1:=HA.out.1.str
  have hs2:=HA.out.2.str
  have SM:=h_ (ref_Same08 va vb vw vw w8 HV.out.1 HV.out.2)
  rw [decide_eq_true rfl] at SM
  go_wp2_with fail
  refine SM.out.mono ?_
  rintro e w9 ⟨rfl,hb⟩
  replace HB:=h_ (HB.out.trans (hb.mono HB.out.size))
  have hs3:=(HD.out.1.later hb l_).str
  have hs4:=(HD.out.2.later hb l_).str
  clear hb SM hs1 hs2 HA HV HD
  go_wp2
  go_ret
  exact ⟨rfl,HB.out⟩
 ·clear hf
  go_wp2_with fail
  refine (K.alive w2 HB.out).mono ?_
  rintro e w3 ⟨rfl,hb⟩
  replace HB:=h_ (HB.out.trans (hb.mono HB.out.size))
  clear hb
  go_wp2
  go_ret
  exact ⟨rfl,HB.out⟩
end Go.Proofs.YtmbpdpcinhhclaaGreatDoor
