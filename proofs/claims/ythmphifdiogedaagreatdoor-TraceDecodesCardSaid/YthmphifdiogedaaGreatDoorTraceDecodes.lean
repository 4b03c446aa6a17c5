/- -/
import Derived.Test.YthmphifdiogedaaGreatDoorTrcRefRead
set_option maxHeartbeats 16000000
set_option linter.unusedVariables false
set_option linter.unusedSimpArgs false
set_option maxRecDepth 1000000
namespace Go.Proofs.YthmphifdiogedaaGreatDoor
open Go.RowKit Go.Shelf
theorem cur_same (x:CurB) (u:World):(binOp .neq 41 (.agg #[.int .i64 x.1,.int .i64 x.2.1,.int .u32 x.2.2]) (.agg #[.int .i64 x.1,.int .i64 x.2.1,.int .u32 x.2.2])).run Tryz.prog u=.ok (.bool false) u:=by
 have u2:=Tryz.underlying2
 have u3:=Tryz.underlying39
 have a2:=Tryz.isAgg2
 have a3:=Tryz.isAgg39
 have z2:=Tryz.sizeOf2
 have z3:=Tryz.sizeOf39
 have hS:Tryz.prog.underlying 41=some (.struct (Tryz.prog.fieldsOf 41)):=by kernel_rfl
 have hp:Tryz.prog.stoodInHeld 41=false:=by kernel_rfl
 rw [run_neq_struct,show (10000:Nat)=9999 + 1 from rfl,run_equalIn_agg u 9999 41 _ _ hS hp]
 simp only [Program.fieldsOf,Tryz.underlying41]
 go_simp
theorem zjW (v:Value) (l:List UInt8) (w:World) (h:Rd w v l) (K:TrcK w) :
  Calls Tryz.prog 3 #[v] w fun e w'=>e=.returned (.bool true)∧Below w.heap.size w w':=by
 obtain ⟨ao,cap,hv,_⟩:=id h.shape
 subst hv
 have hlen:=h.len
 have hsm:=h.small
 have HR:=h_ (fun wz (hz:Below w.heap.size w wz)=>h.later hz l_)
 have DA:=h_ (fun wz hz=>K.decode wz (.slice ao l.length cap) l hz (HR.out wz hz))
 have MA:=h_ (fun wz hz=>K.marks wz (.slice ao l.length cap) l hz (HR.out wz hz))
 have DB:=h_ (fun wz hz=>ref_Decode13 (.slice ao l.length cap) l wz (HR.out wz hz))
 have MB:=h_ (fun wz hz=>ref_Marks13 (.slice ao l.length cap) l wz (HR.out wz hz))
 clear h
 by_cases hl:4000 < l.length
 ·have d1:decide ((4000:Int) < (l.length:Int))=true:=decide_eq_true (by omega)
  clear hl DA MA DB MB
  go_enter Tryz.func3,Tryz.ntmps3
  go_wp2_with fail
  refine (K.alive w (Below.refl _ _)).mono ?_
  rintro e w1 ⟨rfl,hb⟩
  have HB:=h_ hb
  clear hb
  go_wp2_with fail
  refine (K.alive w1 HB.out).mono ?_
  rintro e w2 ⟨rfl,hb⟩
  replace HB:=h_ (HB.out.trans (hb.mono HB.out.size))
  clear hb
  go_wp2
  go_ret
  exact ⟨rfl,HB.out⟩
 ·have d1:decide ((4000:Int) < (l.length:Int))=false:=decide_eq_false (by omega)
  have hl4:l.length≤4000:=by omega
  clear hl
  go_enter Tryz.func3,Tryz.ntmps3
  go_wp2_with fail
  refine (K.alive w (Below.refl _ _)).mono ?_
  rintro e w1 ⟨rfl,hb⟩
  have HB:=h_ hb
  clear hb
  unfold DcO13 at DA DB
  unfold MkO13 at MA MB
  generalize trD l=D at *
  obtain ⟨cs,es,ms,p,x⟩:=D
  dsimp only at DA MA DB MB
  go_wp2_with fail
  refine (DA.out w1 HB.out).mono ?_
  rintro e w2 ⟨tv,rfl,hT,hCS,hb⟩
  replace HB:=h_ (HB.out.trans (hb.mono HB.out.size))
  clear hb DA hCS
  obtain ⟨sv,ev,rfl,hR,hZ⟩:=hT
  obtain ⟨ae,ne,ce,rfl⟩:=hZ.lit
  obtain ⟨ac,nc,cc,rfl⟩:=hR.lit12
  have N:=za9 w2 (.cells #[.slice ac nc cc,.slice ae ne ce] 27)
  have HX:=h_ (show Tbox (w2.alloc (.cells #[.slice ac nc cc,.slice ae ne ce] 27)) w2.heap.size (.slice ac nc cc) (.slice ae ne ce) from N.1)
  have HT:=h_ (show RdT13 (w2.alloc (.cells #[.slice ac nc cc,.slice ae ne ce] 27)) (.agg #[.slice ac nc cc,.slice ae ne ce]) cs es from ⟨_,_,rfl,hR.later N.2 l_,hZ.later N.2 l_⟩)
  replace HB:=h_ (HB.out.trans (N.2.mono HB.out.size))
  clear hR hZ N
  go_wp2_with fail
  obtain ⟨w3,hw3⟩:∃ w3,w3=w2.alloc (.cells #[.slice ac nc cc,.slice ae ne ce] 27):=⟨_,rfl⟩
  obtain ⟨g1,hg1⟩:∃ g1,g1=w2.heap.size:=⟨_,rfl⟩
  rw [← hw3,← hg1] at HX
  rw [← hw3] at HT HB
  rw [← hw3,← hg1]
  clear hw3 hg1
  refine (DB.out w3 HB.out).mono ?_
  rintro e w4 ⟨tv,rfl,hT,hCS,hb⟩
  replace HB:=h_ (HB.out.trans (hb.mono HB.out.size))
  replace HX:=h_ (HX.out.later hb)
  replace HT:=h_ (HT.out.later hb)
  clear hb DB hCS
  obtain ⟨sv,ev,rfl,hR,hZ⟩:=hT
  obtain ⟨ae2,ne2,ce2,rfl⟩:=hZ.lit
  obtain ⟨ac2,nc2,cc2,rfl⟩:=hR.lit12
  have N:=za9 w4 (.cells #[.slice ac2 nc2 cc2,.slice ae2 ne2 ce2] 27)
  have HX2:=h_ (show Tbox (w4.alloc (.cells #[.slice ac2 nc2 cc2,.slice ae2 ne2 ce2] 27)) w4.heap.size (.slice ac2 nc2 cc2) (.slice ae2 ne2 ce2) from N.1)
  have HT2:=h_ (show RdT13 (w4.alloc (.cells #[.slice ac2 nc2 cc2,.slice ae2 ne2 ce2] 27)) (.agg #[.slice ac2 nc2 cc2,.slice ae2 ne2 ce2]) cs es from ⟨_,_,rfl,hR.later N.2 l_,hZ.later N.2 l_⟩)
  replace HB:=h_ (HB.out.trans (N.2.mono HB.out.size))
  replace HX:=h_ (HX.out.later N.2)
  replace HT:=h_ (HT.out.later N.2)
  clear hR hZ N
  go_wp2_with fail
  obtain ⟨w5,hw5⟩:∃ w5,w5=w4.alloc (.cells #[.slice ac2 nc2 cc2,.slice ae2 ne2 ce2] 27):=⟨_,rfl⟩
  obtain ⟨g2,hg2⟩:∃ g2,g2=w4.heap.size:=⟨_,rfl⟩
  rw [← hw5,← hg2] at HX2
  rw [← hw5] at HX HT HT2 HB
  rw [← hw5,← hg2]
  clear hw5 hg2
  refine (MA.out w5 HB.out).mono ?_
  rintro e w6 ⟨lv,rfl,hL,hb⟩
  replace HB:=h_ (HB.out.trans (hb.mono HB.out.size))
  replace HX:=h_ (HX.out.later hb)
  replace HX2:=h_ (HX2.out.later hb)
  replace HT:=h_ (HT.out.later hb)
  replace HT2:=h_ (HT2.out.later hb)
  have HL:=h_ hL
  clear hb MA hL
  go_wp2_with fail
  refine (MB.out w6 HB.out).mono ?_
  rintro e w7 ⟨mv,rfl,hL,hb⟩
  replace HB:=h_ (HB.out.trans (hb.mono HB.out.size))
  replace HX:=h_ (HX.out.later hb)
  replace HX2:=h_ (HX2.out.later hb)
  have HSM:=h_ (ref_Same13 _ _ cs cs es es w7 (HT.out.later hb) (HT2.out.later hb))
  obtain ⟨cu,hcu⟩:∃ cu,cu=curs13 cs ms:=⟨_,rfl⟩
  rw [← hcu] at HL hL
  have HL2:=h_ (And.intro (HL.out.later cursorOk hb l_) hL)
  have hl1:=cur_len HL2.out.1
  have hl2:=cur_len HL2.out.2
  have hcs:=HL2.out.1.small
  rw [List.length_map] at hcs
  obtain ⟨n,hn⟩:∃ n,n=cu.length:=⟨_,rfl⟩
  rw [← hn] at hl1 hl2 hcs
  have HN:=h_ hn
  clear hb MB hL HL HT HT2 hcu hn
  obtain ⟨c0,c1⟩:=HX.out.cells
  obtain ⟨c2,c3⟩:=HX2.out.cells
  go_wp2_with fail
  refine HSM.out.mono ?_
  rintro e w8 ⟨z,rfl,hz,hb⟩
  obtain rfl:z=true:=hz.2 (by simp)
  replace HB:=h_ (HB.out.trans (hb.mono HB.out.size))
  have HL3:=h_ (And.intro (HL2.out.1.later cursorOk hb l_) (HL2.out.2.later cursorOk hb l_))
  clear hb HSM HL2 HX HX2 c0 c1 c2 c3 hz
  go_wp2
  go_loopw [81] (fun i wr=>∃ k:Nat,k≤n∧i=.int .i64 k∧Hid (RdG zaM wr lv (cu.map cuV)∧RdG zaM wr mv (cu.map cuV))∧Hid (Below w.heap.size w wr)) (fun i _=>n - (intOf i).toNat)
  case atStart=>exact ⟨0,by omega,rfl,HL3,HB⟩
  case round =>
   clear HL3 HB
   obtain ⟨k,hk,rfl,HL,HB⟩:=hrel
   by_cases hlt:k < n
   ·obtain ⟨b1,o1,i1,x0,x1,x2⟩:=cur_at HL.out.1 (i:=k) (by rw [← HN.out];exact hlt)
    obtain ⟨b2,o2,i2,y0,y1,y2⟩:=cur_at HL.out.2 (i:=k) (by rw [← HN.out];exact hlt)
    obtain ⟨c,hc⟩:∃ c,c=cu.getD k default:=⟨_,rfl⟩
    rw [← hc] at x0 x1 x2 y0 y1 y2
    have hne:=cur_same c
    clear hc
    obtain ⟨q1,q2,q3⟩:=c
    dsimp only at x0 x1 x2 y0 y1 y2 hne
    have hw1:∀ j,Below wr.heap.size wr (wr.drewN j):=fun j=>Go.below_drewN (Below.refl _ _) j
    have HD:=h_ hw1
    clear hw1
    go_wp2
    go_quiet (fail)
    go_wp2
    go_roundw
    case rel=>exact ⟨k + 1,by omega,by go_num,h_ ⟨HL.out.1.later cursorOk (HD.out _) l_,HL.out.2.later cursorOk (HD.out _) l_⟩,h_ (HB.out.trans ((HD.out _).mono HB.out.size))⟩
    case measure=>simp [intOf];omega
   ·obtain rfl:k=n:=by omega
    clear hlt
    go_wp2
    go_ret
    exact ⟨rfl,HB.out⟩
end Go.Proofs.YthmphifdiogedaaGreatDoor
