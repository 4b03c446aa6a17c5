/- -/
import Derived.Test.YthmphifdiogedaaGreatDoorDSchT
set_option maxHeartbeats 16000000
set_option linter.unusedVariables false
set_option linter.unusedSimpArgs false
set_option maxRecDepth 1000000
namespace Go.Proofs.YthmphifdiogedaaGreatDoor
open Go.RowKit Go.Shelf
theorem CS.snoc {cs:List ColB} (h:CS cs) {s:ByteArray} {kd:Int} (hs:s.size≤140737488351232) (h0:0≤kd) (h1:kd≤255):CS (cs ++ [(s,kd)]):=fun c hc=>by
 rcases List.mem_append.1 hc with hc | hc
 ·exact h c hc
 ·rw [List.mem_singleton.1 hc];exact ⟨hs,by dsimp only;omega,by dsimp only;omega⟩
theorem ref_Take (m:Nat) (v:Value) (l:List UInt8) (w:World) (hM:Mdl w m v l 0 0) :
  Calls Tryz.prog 42 #[.pointer (some ⟨m,0,none⟩)] w fun e w'=>Only (fun j=>j=m) w w'∧∃ k x tv cs,e=.returned tv∧OwnC w' w.heap.size tv cs∧CS cs∧cs.length≤8∧Mdl w' m v l k x∧(rdTake l).2=(k,x)∧(x=0→(rdTake l).1=colsL cs):=by
 have hml:=hM.lt
 have hsm:=hM.rd.small
 have HV:=h_ (fun i (hi:i < l.length)=>hM.rd.block hi)
 go_enter Tryz.func42,Tryz.ntmps42
 go_wp2_with fail
 refine (zbU m v l 0 w hM 8 (by omega)).mono ?_
 rintro e w1 ⟨rfl,hg1,hM1⟩
 obtain ⟨n,hn⟩:∃ n,n=(rdU l 0 8).1:=⟨_,rfl⟩
 obtain ⟨k1,hk1⟩:∃ k1,k1=(rdU l 0 8).2.1:=⟨_,rfl⟩
 obtain ⟨x1,hx1⟩:∃ x1,x1=(rdU l 0 8).2.2:=⟨_,rfl⟩
 have hn8:n≤8∧(x1≠0→n=0):=by
  by_cases hx:(rdU l 0 8).2.2=0
  ·obtain ⟨_,h2,h3,_⟩:=rdU_ok (Nat.zero_le _) hx
   refine ⟨?_,fun hh=>absurd (hx1.trans hx) hh⟩
   rw [hn,h3];dsimp only;omega
  ·obtain ⟨h2,_,_⟩:=rdU_no hx
   exact ⟨by rw [hn,h2];omega,fun _=>by rw [hn,h2]⟩
 have HT:=h_ (show rdTake l=if x1≠0 then ([],k1,x1) else if n=0 then ([],k1,4) else zaO l n [] k1 by
  unfold rdTake;rw [← hn,← hk1,← hx1])
 rw [← hk1,← hx1] at hM1
 rw [← hn]
 have HO1:=h_ ((Only.refl (fun j=>j=m) w).grown hg1 rfl)
 have HM1:=h_ hM1
 obtain ⟨hn8,hnx⟩:=hn8
 have HNX:=h_ hnx
 have hwr:wrap64 (n:Int)=(n:Int):=by unfold wrap64;omega
 clear hn hk1 hx1 hg1 hM1 hM hnx
 obtain ⟨pb,hpb⟩:∃ pb,pb=decide (0 < n):=⟨_,rfl⟩
 have hd0:decide ((n:Int) > 0)=pb:=by rw [hpb];congr 1;apply propext;omega
 have hd1:decide (0 < n)=pb:=hpb.symm
 have HPB:=h_ hpb
 clear hpb
 go_wp2_with fail
 refine (zbE m v l k1 x1 w1 HM1.out pb 4).mono ?_
 rintro e w2 ⟨rfl,hg2,hM2⟩
 obtain ⟨x2,hx2⟩:∃ x2,x2=(if x1=0 then (if pb=true then 0 else 4) else x1):=⟨_,rfl⟩
 rw [← hx2] at hM2
 have HO2:=h_ (HO1.out.grown hg2 rfl)
 have HM2:=h_ hM2
 have HI:=h_ (show (x2=0→rdTake l=zaO l n [] k1)∧(x2≠0→rdTake l=([],k1,x2)) by
  have hT:=HT.out
  have hP:=HPB.out
  by_cases h1:x1=0
  ·rw [if_neg (fun h=>h h1)] at hT
   by_cases h2:n=0
   ·have e:x2=4:=by rw [hx2,if_pos h1,hP,decide_eq_false (by omega)];rfl
    rw [if_pos h2] at hT
    rw [e]
    exact ⟨fun h=>absurd h (by decide),fun _=>hT⟩
   ·have e:x2=0:=by rw [hx2,if_pos h1,hP,decide_eq_true (by omega)];rfl
    rw [if_neg h2] at hT
    rw [e]
    exact ⟨fun _=>hT,fun h=>absurd rfl h⟩
  ·have e:x2=x1:=by rw [hx2,if_neg h1]
   rw [if_pos h1] at hT
   rw [e]
   exact ⟨fun h=>absurd h h1,fun _=>hT⟩)
 have HC0:=h_ (OwnC.nil w2 w.heap.size)
 have hs2:w.heap.size≤w2.heap.size:=HO2.out.size
 clear hd0 hd1 hx2 hg2 hM2 HT HM1 HO1
 go_wp2
 go_loopw [4,5] (fun a i wr=>∃ (k x j:Nat) (cs:List ColB),j≤n∧i=.int .i64 j∧Hid (cs.length=j)∧Hid (CS cs)∧Hid (OwnC wr w.heap.size a cs)∧Hid (Mdl wr m v l k x)∧Hid (Only (fun j=>j=m) w wr)∧Hid ((x=0→rdTake l=zaO l (n - j) (colsL cs) k)∧(x≠0→rdTake l=([],k,x)))) (fun _ i _=>n - (intOf i).toNat)
 case atStart=>exact ⟨k1,x2,0,[],by omega,rfl,h_ rfl,h_ (fun c hc=>absurd hc (by simp)),HC0,HM2,HO2,HI⟩
 case round =>
  clear HC0 HM2 HO2 HI hs2
  obtain ⟨k,x,j,cs,hj,rfl,HL,HCS,HC,HM,HO,HI⟩:=hrel
  have hkl:=HM.out.le
  by_cases hlt:j < n
  ·have d1:decide ((j:Int) < (n:Int))=true:=decide_eq_true (by omega)
   have d2:decide (j < n)=true:=decide_eq_true hlt
   have c2:=HM.out.cell2
   by_cases hx:x=0
   ·subst hx
    have HS0:=h_ (HI.out.1 rfl)
    have q0:(((0:Nat):Int) == 0)=true:=rfl
    go_wp2_with fail
    refine (ziN m v l k wr HM.out 32 (by omega)).mono ?_
    rintro e w3 ⟨val,⟨rfl,hg3,hM3⟩,hown⟩
    have hnl:(rdB l k 32).1.length≤l.length:=by
     by_cases hx:(rdB l k 32).2.2=0
     ·exact (rdB_len hkl hx).1
     ·have e:(rdB l k 32).1=[]:=by
       unfold rdB at hx ⊢
       by_cases h1:(getB (l.drop k) 32).2.2≠0
       ·rw [if_pos h1]
       ·rw [if_neg h1] at hx;exact absurd rfl hx
      rw [e];simp
    obtain ⟨nm,hnm⟩:∃ nm,nm=(rdB l k 32).1:=⟨_,rfl⟩
    obtain ⟨k2,hk2⟩:∃ k2,k2=(rdB l k 32).2.1:=⟨_,rfl⟩
    obtain ⟨x2,hx2⟩:∃ x2,x2=(rdB l k 32).2.2:=⟨_,rfl⟩
    rw [← hnm] at hnl hown
    rw [← hk2,← hx2] at hM3
    have hstr:=(hown.rd (by omega)).str
    have hS:RdS ⟨nm.toArray⟩ nm:=⟨rfl,by omega⟩
    obtain ⟨s,hs⟩:∃ s:ByteArray,s=⟨nm.toArray⟩:=⟨_,rfl⟩
    rw [← hs] at hstr hS
    have hsd:s.data.toList=nm:=by rw [hs]
    have HSD:=h_ hsd
    have HS:=h_ hS
    have HNM:=h_ hnm
    have HK2:=h_ hk2
    have HX2:=h_ hx2
    have HO3:=h_ (HO.out.grown hg3 rfl)
    have HC3:=h_ (HC.out.grown hg3 (fun q hq=>by have:=(OwnC.lt HC.out hq).1;simp;omega))
    have HM3:=h_ hM3
    have hrd:=HC3.out.rd (by rw [HL.out];omega)
    have hfine:=ref_Fine s nm _ cs w3 hS hrd
    obtain ⟨ff,hff⟩:∃ ff,ff=fine nm (names (colsL cs)):=⟨_,rfl⟩
    rw [← hff] at hfine
    have HFI:=h_ hfine
    have HFF:=h_ hff
    clear hg3 hM3 hown hnm hk2 hx2 hs hsd hS hrd hff hfine
    go_wp2_with fail
    refine HFI.out.mono ?_
    rintro e w4 ⟨rfl,rfl⟩
    clear hstr
    go_wp2_with fail
    refine (zbE m v l k2 x2 _ HM3.out ff 2).mono ?_
    rintro e w4 ⟨rfl,hg4,hM4⟩
    obtain ⟨x4,hx4⟩:∃ x4,x4=(if x2=0 then (if ff=true then 0 else 2) else x2):=⟨_,rfl⟩
    rw [← hx4] at hM4
    have HX4:=h_ hx4
    have HO4:=h_ (HO3.out.grown hg4 rfl)
    have HC4:=h_ (HC3.out.grown hg4 (fun q hq=>by have:=(OwnC.lt HC3.out hq).1;simp;omega))
    have HM4:=h_ hM4
    clear hg4 hM4 hx4
    go_wp2_with fail
    refine (mod_Byte m v l k2 x4 w4 HM4.out).mono ?_
    rintro e w5 ⟨rfl,hg5,hM5⟩
    obtain ⟨kd,hkd⟩:∃ kd:Int,kd=(if x4=0 then (if k2 < l.length then at8 l k2 else 0) else 0):=⟨_,rfl⟩
    obtain ⟨k5,hk5⟩:∃ k5,k5=(if x4=0 then (if k2 < l.length then k2 + 1 else k2) else k2):=⟨_,rfl⟩
    obtain ⟨x5,hx5⟩:∃ x5,x5=(if x4=0 then (if k2 < l.length then 0 else 5) else x4):=⟨_,rfl⟩
    rw [← hk5,← hx5] at hM5
    have hkd0:0≤kd∧kd≤255:=by
     rw [hkd]
     have h1:=ze6 l k2
     have h2:=zcP l k2
     split
     ·split <;> omega
     ·omega
    rw [← hkd]
    have HKD:=h_ hkd
    have HK5:=h_ hk5
    have HX5:=h_ hx5
    have HO5:=h_ (HO4.out.grown hg5 rfl)
    have HC5:=h_ (HC4.out.grown hg5 (fun q hq=>by have:=(OwnC.lt HC4.out hq).1;simp;omega))
    have HM5:=h_ hM5
    obtain ⟨hkd0,hkd1⟩:=hkd0
    obtain ⟨pb,hpb⟩:∃ pb,pb=decide (kd≤5):=⟨_,rfl⟩
    have hd0:decide (kd≤5)=pb:=hpb.symm
    have HPB:=h_ hpb
    clear hg5 hM5 hkd hk5 hx5 hpb
    go_wp2_with fail
    refine (zbE m v l k5 x5 w5 HM5.out pb 10).mono ?_
    rintro e w6 ⟨rfl,hg6,hM6⟩
    obtain ⟨x6,hx6⟩:∃ x6,x6=(if x5=0 then (if pb=true then 0 else 10) else x5):=⟨_,rfl⟩
    rw [← hx6] at hM6
    have HX6:=h_ hx6
    have HO6:=h_ (HO5.out.grown hg6 rfl)
    have HC6:=h_ (HC5.out.grown hg6 (fun q hq=>by have:=(OwnC.lt HC5.out hq).1;simp;omega))
    have HM6:=h_ hM6
    have hs6:=HO6.out.size
    clear hg6 hM6 hx6 hd0
    have HO7:=h_ (HO6.out.alloc (.cells #[.string s,.int .i64 kd] 44))
    have HC7:=h_ (HC6.out.alloc (.cells #[.string s,.int .i64 kd] 44))
    have HM7:=h_ (HM6.out.later ((Below.refl _ _).alloc l_ (.cells #[.string s,.int .i64 kd] 44)) l_)
    have hs7:w6.heap.size≤(w6.alloc (.cells #[.string s,.int .i64 kd] 44)).heap.size:=by simp
    have hq7:=fun q hq=>OwnC.lt HC7.out (k:=q) hq
    go_wp2_with (with_reducible refine zhY w.heap.size _ ?hs HC7.out ⟨w6.heap.size,0,none⟩ (s,kd) ?hx (one_col w6 (s,kd)) ?hn ?hbase w.heap.size _ (Below.refl w.heap.size _) l_ ?_)
    case hs=>rfl
    case hx=>rfl
    case hn=>rw [HL.out];omega
    case hbase=>omega
    intro v8 w8 hC8 hb8 hg8
    have HO8:=h_ (HO7.out.far hg8 (fun q hq=>by have:=(hq7 q hq).1;omega))
    have HM8:=h_ (HM7.out.same (hb8.block m (by omega)) (fun i hi=>hb8.block _ (HV.out i hi)))
    have HC8:=h_ hC8
    have HL8:=h_ (show (cs ++ [(s,kd)]).length=j + 1 from by rw [List.length_append,HL.out];rfl)
    have hss:s.size≤140737488351232:=by
     have h1:=HS.out.small
     have e:s.size=nm.length:=by rw [HS.out.eq];simp [ByteArray.size]
     omega
    have HCS8:=h_ (HCS.out.snoc (s:=s) (kd:=kd) hss hkd0 hkd1)
    clear hss
    have HI8:=h_ (show (x6=0→rdTake l=zaO l (n - (j + 1)) (colsL (cs ++ [(s,kd)])) k5)∧(x6≠0→rdTake l=([],k5,x6)) from by
     have hcol:colsL (cs ++ [(s,kd)])=colsL cs ++ [(nm,kd)]:=by
      unfold colsL;rw [List.map_append,List.map_singleton];unfold colL;rw [HSD.out]
     rw [hcol,HS0.out,show n - j=(n - (j + 1)) + 1 from by omega]
     by_cases h2:x2=0
     ·have hX:(rdB l k 32).2.2=0:=by rw [← HX2.out];exact h2
      cases ff with
      | false =>
       have h4:x4=2:=by rw [HX4.out,if_pos h2];rfl
       have h5:x5=2:=by rw [HX5.out,h4];rfl
       have h6:x6=2:=by rw [HX6.out,h5];rfl
       have h7:k5=k2:=by rw [HK5.out,h4];rfl
       refine ⟨fun h=>by omega,fun _=>?_⟩
       rw [h6,h7,HK2.out]
       exact zbH (zg5 hX (by rw [← HNM.out];exact HFF.out.symm)) (by decide)
      | true =>
       have h4:x4=0:=by rw [HX4.out,if_pos h2];rfl
       have hF:fine (rdB l k 32).1 (names (colsL cs))=true:=by rw [← HNM.out];exact HFF.out.symm
       by_cases hk2:k2 < l.length
       ·have h5:x5=0:=by rw [HX5.out,if_pos h4,if_pos hk2]
        have h7:k5=k2 + 1:=by rw [HK5.out,if_pos h4,if_pos hk2]
        have h8:kd=at8 l k2:=by rw [HKD.out,if_pos h4,if_pos hk2]
        by_cases h9:kd≤5
        ·have h6:x6=0:=by rw [HX6.out,if_pos h5,HPB.out,decide_eq_true h9];rfl
         refine ⟨fun _=>?_,fun h=>absurd h6 h⟩
         rw [ziF (zhL hX hF (by rw [← HK2.out];exact hk2) (by rw [← HK2.out,← h8];omega)),← HNM.out,← HK2.out,← h8,h7]
        ·have h6:x6=10:=by rw [HX6.out,if_pos h5,HPB.out,decide_eq_false h9];rfl
         refine ⟨fun h=>by omega,fun _=>?_⟩
         rw [h6,h7,HK2.out]
         exact zbH (zg6 hX hF (by rw [← HK2.out];exact hk2) (by rw [← HK2.out,← h8];omega)) (by decide)
       ·have h5:x5=5:=by rw [HX5.out,if_pos h4,if_neg hk2]
        have h6:x6=5:=by rw [HX6.out,h5];rfl
        have h7:k5=k2:=by rw [HK5.out,if_pos h4,if_neg hk2]
        refine ⟨fun h=>by omega,fun _=>?_⟩
        rw [h6,h7,HK2.out]
        exact zbH (zeZ hX hF (by rw [← HK2.out];exact hk2)) (by decide)
     ·have hX:(rdB l k 32).2.2≠0:=by rw [← HX2.out];exact h2
      have h4:x4=x2:=by rw [HX4.out,if_neg h2]
      have h5:x5=x2:=by rw [HX5.out,h4,if_neg h2]
      have h6:x6=x2:=by rw [HX6.out,h5,if_neg h2]
      have h7:k5=k2:=by rw [HK5.out,h4,if_neg h2]
      refine ⟨fun h=>by omega,fun _=>?_⟩
      rw [h6,h7,HK2.out,HX2.out]
      exact zbH (zf0 hX) hX)
    clear hC8 hb8 hg8 hq7
    go_wp2
    go_roundw
    case rel=>exact ⟨k5,x6,j + 1,cs ++ [(s,kd)],by omega,by go_num,HL8,HCS8,HC8,HM8,HO8,HI8⟩
    case measure=>simp [intOf];omega
   ·have q0:((x:Int) == 0)=false:=by rw [beq_eq_false_iff_ne];omega
    have HR:=h_ (HI.out.2 hx)
    clear HI
    have hl8:cs.length≤8:=by rw [HL.out];omega
    clear hx
    go_wp2
    go_ret
    exact ⟨HO.out,k,x,_,cs,rfl,HC.out,HCS.out,hl8,HM.out,by rw [HR.out],fun h=>by rw [h] at q0;cases q0⟩
  ·obtain rfl:j=n:=by omega
   have hl8:cs.length≤8:=by rw [HL.out];omega
   have d2:decide (j < j)=false:=decide_eq_false (by omega)
   have HF:=h_ (show (rdTake l).2=(k,x)∧(x=0→(rdTake l).1=colsL cs) from by
    have h1:=HI.out
    rw [Nat.sub_self] at h1
    by_cases hx:x=0
    ·have h2:=h1.1 hx
     rw [zaO] at h2
     rw [h2,hx];exact ⟨rfl,fun _=>rfl⟩
    ·rw [h1.2 hx];exact ⟨rfl,fun h=>absurd h hx⟩)
   clear hlt HI
   go_wp2
   go_ret
   exact ⟨HO.out,k,x,_,cs,rfl,HC.out,HCS.out,hl8,HM.out,HF.out.1,HF.out.2⟩
theorem ref_Read05 (v:Value) (l:List UInt8) (w:World) (h:Rd w v l) :
  Calls Tryz.prog 25 #[v] w (RdO w l):=by
 obtain ⟨ao,cap,hv,_⟩:=id h.shape
 subst hv
 obtain ⟨N0,N1,N2⟩:=new1 w (.cells #[.slice ao l.length cap,.int .i64 0,.int .i64 0] 103)
 obtain ⟨w0,hw0⟩:∃ w0,w0=w.alloc (.cells #[.slice ao l.length cap,.int .i64 0,.int .i64 0] 103):=⟨_,rfl⟩
 rw [← hw0] at N0 N1 N2
 have HW0:=h_ hw0
 have HB0:=h_ N2
 have HM0:=h_ (show Mdl w0 w.heap.size (.slice ao l.length cap) l 0 0 from ⟨N1,Nat.zero_le _,h.later N2 l_,fun i hi=>by have:=h.block hi;omega⟩)
 clear hw0 N1 N2 h
 go_enter Tryz.func25,Tryz.ntmps25
 go_wp2_with fail
 rw [← HW0.out]
 refine (ref_Take w.heap.size _ l w0 HM0.out).mono ?_
 rintro e w1 ⟨hO,k,x,tv,cs,rfl,hown,hcs,h8,hM,hrt,hrc⟩
 have HB1:=h_ (HB0.out.trans (hO.toBelow (fun j hj=>by omega) (by omega)))
 have HOW:=h_ (hown.lower (b':=w.heap.size) (by omega))
 have HRT:=h_ hrt
 have HRC:=h_ hrc
 have HM:=h_ hM
 clear hO hown hrt hrc hM
 go_wp2_with fail
 refine (zd0 w.heap.size _ l k x w1 HM.out).mono ?_
 rintro e w2 ⟨rfl,hb⟩
 have HB2:=h_ (HB1.out.trans (hb.mono HB1.out.size))
 have HO2:=h_ (HOW.out.later hb l_)
 obtain ⟨y,hy⟩:∃ y,y=toldM l k x:=⟨_,rfl⟩
 have HRE:=h_ (show readE l=y from by unfold readE;rw [HRT.out,hy];rfl)
 rw [← hy]
 have HY:=h_ hy
 clear hb hy
 by_cases h0:y=0
 ·have q:((y:Int) != 0)=false:=by rw [h0];rfl
  have HR0:=h_ (show x=0 from by
   have h1:=HY.out
   unfold toldM at h1
   by_cases hx:x=0
   ·exact hx
   ·rw [if_neg hx] at h1;omega)
  have H0:=h_ h0
  clear h0
  go_wp2
  go_ret3
  refine ⟨HB2.out,_,cs,by rw [HRT.out,HRE.out,H0.out];rfl,HO2.out,hcs,h8,?_⟩
  unfold readC
  rw [HRE.out,if_pos H0.out,HRC.out HR0.out]
 ·have q:((y:Int) != 0)=true:=by rw [bne_iff_ne];omega
  have H0:=h_ h0
  clear h0
  go_wp2
  go_ret3
  refine ⟨HB2.out,_,[],by rw [HRT.out,HRE.out];rfl,OwnC.nil _ _,fun c hc=>absurd hc (by simp),by simp,?_⟩
  unfold readC
  rw [HRE.out,if_neg H0.out];rfl
end Go.Proofs.YthmphifdiogedaaGreatDoor
