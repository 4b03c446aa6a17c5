/- -/
import Derived.Test.YthmphifdiogedaaGreatDoorDTrcR
set_option maxHeartbeats 8000000
set_option linter.unusedVariables false
set_option linter.unusedSimpArgs false
set_option maxRecDepth 1000000
namespace Go.Proofs.YthmphifdiogedaaGreatDoor
open Go.RowKit Go.Shelf
instance entB_dec:DecidableEq EntB:=fun a b=>(inferInstance:Decidable (a=b))


/- -/
def ex13C:List ColB:=[(⟨#[105,100]⟩,0)]
def ex13L:List UInt8:=[0,5,1,2,105,100,0]
theorem ex13_fine:errS (colsL ex13C)=0:=by decide +kernel
theorem ex13_cs:CS ex13C:=fun c hc=>by
 rw [List.mem_singleton.1 hc]
 exact ⟨by decide,by decide,by decide⟩
theorem ex13_frame:frX 0 (wrS (colsL ex13C))=ex13L:=by decide +kernel
theorem zgA:trE ex13C []=([68,75,76,49] ++ (ex13L ++ Crc.put (Crc.sum ex13L)),0,[],0,0):=by
 rw [trE_of ex13_fine (by rw [trW]),trW]
 unfold hdB frB zcK
 rw [ex13_frame,List.append_nil]
theorem ex13_back:(trD ([68,75,76,49] ++ (ex13L ++ Crc.put (Crc.sum ex13L)))).1=ex13C∧(trD ([68,75,76,49] ++ (ex13L ++ Crc.put (Crc.sum ex13L)))).2.1=[]∧(trD ([68,75,76,49] ++ (ex13L ++ Crc.put (Crc.sum ex13L)))).2.2.2.1=([68,75,76,49] ++ (ex13L ++ Crc.put (Crc.sum ex13L))).length∧(trD ([68,75,76,49] ++ (ex13L ++ Crc.put (Crc.sum ex13L)))).2.2.2.2=0:=by
 have h:=trE_back (cs:=ex13C) (es:=[]) (fun x hx=>absurd hx (by simp)) (by rw [zgA])
 rw [zgA] at h
 exact ⟨h.2.1,h.2.2.1,h.2.2.2.1,h.2.2.2.2⟩
theorem rdC_one13 (w:World) (a:ColB):RdC (w.alloc (.cells #[.string a.1,.int .i64 a.2] 44)) (.slice (some ⟨w.heap.size,0,none⟩) 1 1) [a]:=by
 have ho:=zcX colE w w.heap.size l_ ([a].map colV) (by intro x hx;obtain ⟨t,_,rfl⟩:=List.mem_map.1 hx;rfl) (by
  intro x hx u hu
  obtain ⟨t,ht,rfl⟩:=List.mem_map.1 hx
  simp [colV] at hu
  rcases hu with rfl | rfl <;> rfl) (by simp)
 exact OwnG.rd ho (by simp)
theorem zk0 (w:World)
  (enc:∀ wz v cs es,Below w.heap.size w wz→RdT13 wz v cs es→CS cs→(∀ x ∈ es,EnO x)→Calls Tryz.prog 10 #[v] wz (EnO13 wz (trE cs es)))
  (dec:∀ wz v b,Below w.heap.size w wz→Rd wz v b→Calls Tryz.prog 5 #[v] wz (DcO13 wz b)) :
  Calls Tryz.prog 4 #[] w fun e w'=>e=.returned (.bool true)∧Below w.heap.size w w':=by
 have hv1:=rdC_one13 w (⟨#[105,100]⟩,0)
 have HB1:=h_ ((Below.refl w.heap.size w).alloc l_ (.cells #[.string ⟨#[105,100]⟩,.int .i64 0] 44))
 have ENC:=h_ (enc _ (.agg #[.slice (some ⟨w.heap.size,0,none⟩) 1 1,.slice none 0 0]) ex13C [] HB1.out ⟨_,_,rfl,hv1,RdZ.nil _⟩ ex13_cs (fun x hx=>absurd hx (by simp)))
 rw [zgA] at ENC
 obtain ⟨B,hB⟩:∃ B,B=[68,75,76,49] ++ (ex13L ++ Crc.put (Crc.sum ex13L)):=⟨_,rfl⟩
 have hbl:B.length=15:=by rw [hB,List.length_append,List.length_append,show (Crc.put (Crc.sum ex13L)).length=4 from rfl];rfl
 have hbk:=ex13_back
 rw [← hB] at ENC hbk
 have HBk:=h_ hbk
 have HBe:=h_ hB
 have HBl:=h_ hbl
 have DEC:=h_ dec
 clear enc dec hv1 hbk hB hbl
 go_enter Tryz.func4,Tryz.ntmps4
 go_wp2_with fail
 refine ENC.out.mono ?_
 rintro e w2 ⟨bv,rfl,ho,hb⟩
 have HB2:=h_ (HB1.out.trans (hb.mono HB1.out.size))
 have HA:=h_ (show Rd w2 bv B from ho.rd (by have:=HBl.out;dsimp only;omega))
 clear hb ho ENC HB1
 have hcv:=Lib.run_convert_bytes_const (P:=Tryz.prog) w2 22 5 #[.int .u8 68,.int .u8 75,.int .u8 76,.int .u8 49] 4 4 Tryz.underlying22 Tryz.underlying5
 have h4:=rd_lit w2 [68,75,76,49] (by decide) (4,5)
 have hb3:Below w.heap.size w (w2.alloc (.cells #[.int .u8 68,.int .u8 75,.int .u8 76,.int .u8 49] 5 (4,5))):=HB2.out.alloc HB2.out.size _
 have hcv2:=Go.Joins.run_convert_bytes_const_at (P:=Tryz.prog) (w2.alloc (.cells #[.int .u8 68,.int .u8 75,.int .u8 76,.int .u8 49] 5 (4,5))) 22 5 #[.int .u8 0,.int .u8 5,.int .u8 1,.int .u8 2,.int .u8 105,.int .u8 100,.int .u8 0] 7 7 (w2.heap.size + 1) (by simp) Tryz.underlying22 Tryz.underlying5
 have h7:Rd ((w2.alloc (.cells #[.int .u8 68,.int .u8 75,.int .u8 76,.int .u8 49] 5 (4,5))).alloc (.cells #[.int .u8 0,.int .u8 5,.int .u8 1,.int .u8 2,.int .u8 105,.int .u8 100,.int .u8 0] 5 (7,8))) (.slice (some ⟨w2.heap.size + 1,0,none⟩) 7 7) ex13L:=by
  have:=rd_lit (w2.alloc (.cells #[.int .u8 68,.int .u8 75,.int .u8 76,.int .u8 49] 5 (4,5))) ex13L (by decide) (7,8)
  rw [World.size_alloc] at this
  exact this
 have hb4:=(Below.refl (w2.alloc (.cells #[.int .u8 68,.int .u8 75,.int .u8 76,.int .u8 49] 5 (4,5))).heap.size (w2.alloc (.cells #[.int .u8 68,.int .u8 75,.int .u8 76,.int .u8 49] 5 (4,5)))).alloc l_ (.cells #[.int .u8 0,.int .u8 5,.int .u8 1,.int .u8 2,.int .u8 105,.int .u8 100,.int .u8 0] 5 (7,8))
 have H4:=h_ (show Rd ((w2.alloc (.cells #[.int .u8 68,.int .u8 75,.int .u8 76,.int .u8 49] 5 (4,5))).alloc (.cells #[.int .u8 0,.int .u8 5,.int .u8 1,.int .u8 2,.int .u8 105,.int .u8 100,.int .u8 0] 5 (7,8))) (.slice (some ⟨w2.heap.size,0,none⟩) 4 4) [68,75,76,49] from h4.later hb4 l_)
 have H7:=h_ h7
 have HB4:=h_ (hb3.trans (hb4.mono hb3.size))
 have HA4:=h_ ((HA.out.alloc (.cells #[.int .u8 68,.int .u8 75,.int .u8 76,.int .u8 49] 5 (4,5))).alloc (.cells #[.int .u8 0,.int .u8 5,.int .u8 1,.int .u8 2,.int .u8 105,.int .u8 100,.int .u8 0] 5 (7,8)))
 clear h4 h7 hb3 hb4 HA
 go_wp2_with fail
 refine (crc_Seal _ ex13L _ H7.out).mono ?_
 rintro e w5 ⟨cv,rfl,ho,hb⟩
 have hl5:(ex13L ++ Crc.put (Crc.sum ex13L)).length=11:=by rw [List.length_append,show (Crc.put (Crc.sum ex13L)).length=4 from rfl];rfl
 have hrc:=ho.rd (by omega)
 have h45:=H4.out.later hb l_
 have HA5:=h_ (HA4.out.later hb l_)
 have hb5:=HB4.out.trans (hb.mono HB4.out.size)
 clear hb ho hcv hcv2 H4 H7 HB4 HA4 HB2
 go_wp2_with (refine zeL w2.heap.size 4 [68,75,76,49] (ex13L ++ Crc.put (Crc.sum ex13L)) ?hs h45 cv ?hx hrc ?hp ?hf ?hn w5.heap.size w5 (Below.refl _ _) l_ ?_)
 case hs=>rfl
 case hx=>rfl
 case hp=>omega
 case hf=>rw [hl5];decide
 case hn=>rw [hl5];decide
 intro v6 w6 ho6 hb6
 rw [← HBe.out] at ho6
 have HB6:=h_ (hb5.trans (hb6.mono hb5.size))
 have HR6:=h_ (ho6.rd (by have:=HBl.out;omega))
 have HA6:=h_ (HA5.out.later hb6 l_)
 have DC:=h_ (DEC.out w6 v6 B HB6.out HR6.out)
 clear ho6 hb6 hb5 HA5 h45 hrc hl5 DEC
 go_wp2_with fail
 refine DC.out.mono ?_
 rintro e w7 ⟨tv,rfl,hT,_,hb⟩
 obtain ⟨k1,k2,k3,k4⟩:=HBk.out
 rw [k1,k2] at hT
 rw [k3,k4]
 have HB7:=h_ (HB6.out.trans (hb.mono HB6.out.size))
 have hra:=HA6.out.later hb l_
 have hrb:=HR6.out.later hb l_
 obtain ⟨sv,ev,rfl,hR,hZ⟩:=hT
 obtain ⟨ae,ne,ce,rfl⟩:=hZ.lit
 obtain ⟨ac,nc,cc,rfl⟩:=hR.lit12
 have hlc:=hR.len
 have hlb:=hrb.len
 have N:=za9 w7 (.cells #[.slice ac nc cc,.slice ae ne ce] 27)
 obtain ⟨c0,c1⟩:=(show Tbox (w7.alloc (.cells #[.slice ac nc cc,.slice ae ne ce] 27)) w7.heap.size (.slice ac nc cc) (.slice ae ne ce) from N.1).cells
 have HB8:=h_ (HB7.out.trans (N.2.mono HB7.out.size))
 have hs1:=(hra.later N.2 l_).str
 have hs2:=(hrb.later N.2 l_).str
 clear hb k1 k2 k3 k4 hR hZ hra hrb N DC HR6 HA6 HB6
 go_wp2
 go_ret
 exact ⟨rfl,HB8.out⟩


/- -/
theorem trcK_of {w:World} (hT:Tabs w) (hF:Frs w):TrcK w where
 alive:=fun wz hz=>zk0 wz (fun w2 v cs es h2 h c o=>zgM v cs es w2 h c o ((hT.later hz).later h2) ((hF.later hz).later h2)) (fun w2 v b h2 h=>zgN v b w2 h ((hT.later hz).later h2) ((hF.later hz).later h2))
 encode:=fun wz v cs es hz h c o=>zgM v cs es wz h c o (hT.later hz) (hF.later hz)
 head:=fun wz v cs hz h c=>zk8 v cs wz h c (hT.later hz)
 decode:=fun wz v b hz h=>zgN v b wz h (hT.later hz) (hF.later hz)
 marks:=fun wz v b hz h=>trace_Marks v b wz h (hT.later hz) (hF.later hz)
end Go.Proofs.YthmphifdiogedaaGreatDoor

