/- -/
import Derived.Test.YtpcobefhgkiolaaGreatDoorBWrtP
import Derived.Test.YtpcobefhgkiolaaGreatDoorBWrtR
import Derived.Test.YtpcobefhgkiolaaGreatDoorBZDefs
import Derived.Deep.QuietTactic
import Derived.BigQuiet
import Derived.Test.YtpcobefhgkiolaaGreatDoorBWrtM
import Derived.Test.YtpcobefhgkiolaaGreatDoorBTrcS
import Derived.Test.YtpcobefhgkiolaaGreatDoorBTrcL
import Derived.Test.YtpcobefhgkiolaaGreatDoorBColRd
import Derived.Test.YtpcobefhgkiolaaGreatDoorRows
import Derived.Test.YtpcobefhgkiolaaGreatDoorBBaseB
import Derived.Test.YtpcobefhgkiolaaGreatDoorBBatW
import Derived.Test.YtpcobefhgkiolaaGreatDoorTrcViews
set_option linter.unusedVariables false
set_option linter.unusedSimpArgs false
set_option maxRecDepth 1000000
namespace Go.Proofs.YtpcobefhgkiolaaGreatDoor
open Go.RowKit Go.Shelf
def allR (cs:List ColB):List EntB→List (List PairB)→List EntB × Nat
 | es,[]=>(es,0)
 | es,ps :: t=>if actE cs es (0,ps)≠0 then (es,actE cs es (0,ps)) else allR cs (actS cs es (0,ps)) t
def allO (cs:List ColB) (pss:List (List PairB)):List UInt8 × Nat × Nat :=
 if errS (colsL cs)≠0 then ([],0,errS (colsL cs)) else ((trE cs (allR cs [] pss).1).1,(allR cs [] pss).1.length,(allR cs [] pss).2)
section
variable {cs:List ColB} {es:List EntB} {pss:List (List PairB)} {k:Nat}
theorem allR_bad (hk:k < pss.length) (h:actE cs es (0,pss.getD k [])≠0):allR cs es (pss.drop k)=(es,actE cs es (0,pss.getD k [])):=by
 rw [List.drop_eq_getElem_cons hk,allR]
 have e:pss.getD k []=pss[k]:=by simp [List.getD,hk]
 rw [← e,if_pos h]
theorem allR_go (hk:k < pss.length) (h:actE cs es (0,pss.getD k [])=0):allR cs es (pss.drop k)=allR cs (actS cs es (0,pss.getD k [])) (pss.drop (k + 1)):=by
 rw [List.drop_eq_getElem_cons hk,allR]
 have e:pss.getD k []=pss[k]:=by simp [List.getD,hk]
 rw [← e,if_neg fun hh=>hh h]
theorem actS_len (h:actE cs es (0,pss.getD k [])=0):(actS cs es (0,pss.getD k [])).length=es.length + 1:=by
 unfold actS
 rw [if_pos h,List.length_append];rfl
end
structure Chg (w:World) (v:Value) (vals:List Value) (pss:List (List PairB)):Prop where
 rd:RdPs w v vals
 len:pss.length=vals.length
 each:∀ i,i < vals.length→RdP w (vals.getD i undef) (pss.getD i [])∧PSO (pss.getD i [])
theorem Chg.later {w w':World} {v:Value} {vals:List Value} {pss:List (List PairB)} (h:Chg w v vals pss) (hb:Below w.heap.size w w'):Chg w' v vals pss :=
 ⟨RdG.later h.rd pairsOk hb l_,h.len,fun i hi=>⟨(h.each i hi).1.later hb l_,(h.each i hi).2⟩⟩
theorem Chg.size {w:World} {v:Value} {vals:List Value} {pss:List (List PairB)} (h:Chg w v vals pss):∀ u,(Builtin.len_ #[60] 3 #[v]).run Tryz.prog u=.ok (.int .i64 (pss.length:Int)) u:=by
 have:=RdG.len h.rd pairsOk
 rw [List.length_map,← h.len] at this
 exact this
theorem Chg.small {w:World} {v:Value} {vals:List Value} {pss:List (List PairB)} (h:Chg w v vals pss):pss.length≤140737488351232:=by
 have:=RdG.small h.rd
 rw [List.length_map,← h.len] at this
 exact this
theorem Chg.lit {w:World} {v:Value} {vals:List Value} {pss:List (List PairB)} (h:Chg w v vals pss):∃ ao n cap,v=.slice ao n cap:=by
 obtain ⟨ao,cap,e,_⟩:=RdG.shape h.rd
 exact ⟨_,_,_,e⟩
theorem Chg.get {w:World} {v:Value} {vals:List Value} {pss:List (List PairB)} (h:Chg w v vals pss) {i:Nat} (hi:i < pss.length):∃ b o lv,(∀ u,(Instr.indexAt 60 v (.int .i64 (i:Int))).run Tryz.prog u=.ok (.pointer (some ⟨b,o,none⟩)) u) ∧
  w.cell? ⟨b,o,none⟩=some lv∧RdP w lv (pss.getD i [])∧PSO (pss.getD i []):=by
 have hi2:i < vals.length:=by rw [← h.len];exact hi
 have hi':i < (vals.map fun x=>[x]).length:=by simpa using hi2
 have hx:=RdG.idx h.rd pairsOk i hi'
 obtain ⟨b,o,ha,hc⟩:=RdG.at h.rd hi'
 rw [ha] at hx
 rw [getD_map (fun x=>[x]) vals i hi2 undef] at hc
 exact ⟨b,o,_,hx,hc 0 _ rfl,(h.each i hi2).1,(h.each i hi2).2⟩
def AlO (w:World) (cs:List ColB) (pss:List (List PairB)) (e:Ending) (w':World):Prop :=
 ∃ v,e=.returned (.tuple #[v,.int .i64 ((allO cs pss).2.1:Nat),.int .i64 ((allO cs pss).2.2:Nat)])∧Own w' w.heap.size v (allO cs pss).1∧Below w.heap.size w w'
theorem AlO.of {w w':World} {cs:List ColB} {pss:List (List PairB)} {es:List EntB} {v:Value} {B:List UInt8} {E:Nat} {y z:Int} (h0:errS (colsL cs)=0) (h:allR cs [] pss=(es,E)) (hB:B=(trE cs es).1) (hv:Own w' w.heap.size v B) (hy:y=(es.length:Int)) (hz:z=(E:Int)) (hb:Below w.heap.size w w') :
  AlO w cs pss (.returned (.tuple #[v,.int .i64 y,.int .i64 z])) w':=by
 subst hy hz hB
 have e:allO cs pss=((trE cs es).1,es.length,E):=by unfold allO;rw [if_neg (fun hh=>hh h0),h]
 unfold AlO
 rw [e]
 exact ⟨v,rfl,hv,hb⟩
set_option maxHeartbeats 8000000 in
theorem writer_All (sv v:Value) (cs:List ColB) (vals:List Value) (pss:List (List PairB)) (w:World) (hR:RdC w sv cs) (hC:CS cs) (hV:Chg w v vals pss) (hs:∀ i,i < pss.length→(pss.getD i []).length≤4000) (hT:Tabs w) (hF:Frs w) :
  Calls Tryz.prog 27 #[sv,v] w (AlO w cs pss):=by
 have NW:=h_ (writer_New sv cs w hR hC hT)
 obtain ⟨al,nl,cl,rfl⟩:=hV.lit
 have hlen:=hV.size
 have hsm:=hV.small
 have HV:=h_ (fun wz (hz:Below w.heap.size w wz)=>hV.later hz)
 have HT:=h_ (fun wz (hz:Below w.heap.size w wz)=>hT.later hz)
 have HF:=h_ (fun wz (hz:Below w.heap.size w wz)=>hF.later hz)
 have HS:=h_ hs
 obtain ⟨n,hn⟩:∃ n,n=pss.length:=⟨_,rfl⟩
 rw [← hn] at hlen hsm
 have HN:=h_ hn
 unfold NwO at NW
 obtain ⟨E,hE⟩:∃ E,E=errS (colsL cs):=⟨_,rfl⟩
 have HE:=h_ hE
 rw [← hE] at NW
 clear hR hC hV hT hF hs hn hE
 go_enter Tryz.func27,Tryz.ntmps27
 go_wp2_with fail
 refine NW.out.mono ?_
 rintro e w1 ⟨v1,rfl,hb,hw⟩
 rcases hw with ⟨h0,rfl⟩ | ⟨h0,g,bv,rfl,hw⟩
 ·have q:((E:Int) != 0)=true:=by rw [bne_iff_ne];omega
  have HN0:=h_ h0
  have HB:=h_ hb
  clear h0 hb NW
  go_wp2
  go_ret3
  unfold AlO
  have e:allO cs pss=([],0,errS (colsL cs)):=by unfold allO;rw [if_pos (by rw [← HE.out];exact HN0.out)]
  rw [e,← HE.out]
  exact ⟨_,rfl,own_nil _ _,HB.out⟩
 ·subst h0
  have HW0:=h_ (hw (fun _=>False) fun j h=>h.elim)
  have HB0:=h_ hb
  clear hw hb NW
  go_wp2
  go_loopw [23] (fun i wr=>∃ (k:Nat) (es:List EntB) (bw:Value),k≤n∧i=.int .i64 k∧Hid (allR cs [] pss=allR cs es (pss.drop k))∧Hid (es.length=k)∧Hid (Wr wr w.heap.size g bw cs es fun _=>False)∧Hid (Below w.heap.size w wr)) (fun i _=>n - (intOf i).toNat)
  case atStart=>exact ⟨0,[],bv,by omega,rfl,h_ rfl,h_ rfl,HW0,HB0⟩
  case round =>
   clear HW0 HB0
   obtain ⟨k,es,bw,hk,rfl,HR,HK,HW,HB⟩:=hrel
   by_cases hlt:k < n
   ·have hkn:k < pss.length:=by rw [← HN.out];exact hlt
    obtain ⟨b9,o9,lv,hidx,c9,hrd,hps⟩:=(HV.out wr HB.out).get hkn
    obtain ⟨a9,n9,k9,rfl⟩:=hrd.lit12
    have AP:=h_ (writer_Append w.heap.size g bw (.slice a9 n9 k9) cs es (pss.getD k []) (fun _=>False) wr HW.out (fun j h=>h.elim) hrd hps (HS.out k hkn) (HT.out wr HB.out) (HF.out wr HB.out))
    have HKN:=h_ hkn
    obtain ⟨X,hX⟩:∃ X,X=actE cs es (0,pss.getD k []):=⟨_,rfl⟩
    have HX:=h_ hX
    rw [← hX] at AP
    clear hrd hps hkn hX
    go_wp2_with fail
    refine AP.out.mono ?_
    rintro e w2 ⟨xv,bn,rfl,hx,hw,hO,hp⟩
    obtain ⟨ax,nx,cx,rfl⟩:=hx.lit13
    have HB2:=h_ (HB.out.trans (HW.out.below hO))
    have hW2:=hw.less (Q':=fun _=>False) fun j h=>h.elim
    clear hx hw hO hp AP c9
    by_cases hX0:X=0
    ·subst hX0
     have hgo:=allR_go HKN.out HX.out.symm
     have hel:=actS_len (cs:=cs) (es:=es) (pss:=pss) (k:=k) HX.out.symm
     have HR2:=h_ (HR.out.trans hgo)
     have HK2:=h_ (show (actS cs es (0,pss.getD k [])).length=k + 1 from by rw [hel,HK.out])
     have HW2:=h_ hW2
     clear hgo hel hW2
     go_wp2
     go_roundw
     case rel=>exact ⟨k + 1,actS cs es (0,pss.getD k []),bn,by omega,by go_num,HR2,HK2,HW2,HB2⟩
     case measure=>simp [intOf];omega
    ·have q:((X:Int) != 0)=true:=by rw [bne_iff_ne];omega
     have hbad:=allR_bad (cs:=cs) (es:=es) HKN.out (by rw [← HX.out];exact hX0)
     have hes:actS cs es (0,pss.getD k [])=es:=by unfold actS;rw [← HX.out,if_neg hX0]
     rw [hes] at hW2
     obtain ⟨sv2,vv2,hbox,_⟩:=hW2.box
     obtain ⟨d0,d1,d2,d3,d4⟩:=hbox.cells
     have HW2:=h_ hW2
     rw [HK.out] at d2
     obtain ⟨a7,n7,c7,rfl⟩:=hW2.own.lit13
     have HBAD:=h_ (HR.out.trans hbad)
     clear hbad hes hW2 hbox hX0 hlt
     go_wp2
     go_quiet (fail)
     go_wp2
     go_ret3
     exact AlO.of HE.out.symm (by rw [HBAD.out,← HX.out]) rfl (HW2.out.own.later (Go.below_drewN (Below.refl _ _) _) l_) (by rw [HK.out]) rfl (Go.below_drewN HB2.out _)
   ·obtain rfl:k=n:=by omega
    have hend:allR cs es (pss.drop k)=(es,0):=by rw [List.drop_of_length_le (by rw [HN.out];exact l_),allR]
    obtain ⟨sv2,vv2,hbox,_⟩:=HW.out.box
    obtain ⟨d0,d1,d2,d3,d4⟩:=hbox.cells
    rw [HK.out] at d2
    obtain ⟨a7,n7,c7,rfl⟩:=HW.out.own.lit13
    have HEND:=h_ (HR.out.trans hend)
    clear hend hbox hlt
    go_wp2
    go_quiet (fail)
    go_wp2
    go_ret3
    exact AlO.of HE.out.symm HEND.out rfl (HW.out.own.later (Go.below_drewN (Below.refl _ _) _) l_) (by rw [HK.out]) rfl (Go.below_drewN HB.out _)
end Go.Proofs.YtpcobefhgkiolaaGreatDoor


/- -/
namespace Go.Proofs.YtpcobefhgkiolaaGreatDoor
open Go.RowKit Go.Shelf
theorem flatten_snoc {pss:List (List PairB)} {k:Nat} (h:k < pss.length):(pss.take (k + 1)).flatten=(pss.take k).flatten ++ pss.getD k []:=by
 rw [take_succD h [],List.flatten_append];simp
theorem flatten_take (pss:List (List PairB)) (k:Nat):(pss.take k).flatten.length≤pss.flatten.length:=by
 have e:pss.flatten=(pss.take k).flatten ++ (pss.drop k).flatten:=by rw [← List.flatten_append,List.take_append_drop]
 rw [e,List.length_append];omega
theorem flatten_one {pss:List (List PairB)} {k:Nat} (h:k < pss.length):(pss.getD k []).length≤pss.flatten.length:=by
 have h1:=flatten_take pss (k + 1)
 rw [flatten_snoc h,List.length_append] at h1;omega
end Go.Proofs.YtpcobefhgkiolaaGreatDoor


/- -/
namespace Go.Proofs.YtpcobefhgkiolaaGreatDoor
open Go.RowKit Go.Shelf
abbrev ActV:=Value × ActB
def acV (t:ActV):List Value:=[.int .i64 t.2.1,t.1]
def actElt:Elt:=⟨23,35,2,32,.agg #[.int .i64 0,.slice none 0 0]⟩
theorem actOk:actElt.Ok:=⟨Tryz.underlying23,by kernel_rfl,by kernel_rfl,rfl,by decide⟩
def RdA14 (w:World) (v:Value) (l:List ActB):Prop:=∃ ts:List ActV,l=ts.map (·.2)∧RdG actElt w v (ts.map acV)∧∀ t ∈ ts,RdP w t.1 t.2.2
def ACO (l:List ActB):Prop:=∀ a ∈ l,inW a.1∧PSO a.2
def flat14 (l:List ActB):List PairB:=l.flatMap fun a=>a.2
section
variable {w w':World} {v:Value} {l:List ActB}
theorem RdA14.later (h:RdA14 w v l) (hb:Below w.heap.size w w'):RdA14 w' v l:=by
 obtain ⟨ts,e,h1,h2⟩:=h
 exact ⟨ts,e,h1.later actOk hb l_,fun t ht=>(h2 t ht).later hb l_⟩
theorem RdA14.small (h:RdA14 w v l):l.length≤140737488351232:=by
 obtain ⟨ts,rfl,h,_⟩:=h
 have:=h.small;simpa using this
theorem RdA14.lit (h:RdA14 w v l):∃ ao n cap,v=.slice ao n cap:=by
 obtain ⟨ts,e,h,_⟩:=h
 obtain ⟨ao,cap,e,_⟩:=RdG.shape h
 exact ⟨_,_,_,e⟩
theorem RdA14.len (h:RdA14 w v l):∀ u,(Builtin.len_ #[23] 3 #[v]).run Tryz.prog u=.ok (.int .i64 (l.length:Int)) u:=by
 obtain ⟨ts,rfl,h,_⟩:=h
 have:=RdG.len h actOk
 rw [List.length_map] at this ⊢
 exact this
theorem RdA14.get (h:RdA14 w v l) {i:Nat} (hi:i < l.length):∃ b o pv,(∀ u,(Instr.indexAt 23 v (.int .i64 (i:Int))).run Tryz.prog u=.ok (.pointer (some ⟨b,o,none⟩)) u) ∧
  w.cell? ⟨b,o,none⟩=some (.int .i64 (l.getD i default).1)∧w.cell? ⟨b,o + 1,none⟩=some pv∧RdP w pv (l.getD i default).2∧b < w.heap.size:=by
 obtain ⟨ts,rfl,h,hr⟩:=h
 rw [List.length_map] at hi
 have hi':i < (ts.map acV).length:=by simpa using hi
 have hx:=RdG.idx h actOk i hi'
 obtain ⟨b,o,ha,hc⟩:=RdG.at h hi'
 rw [ha] at hx
 have eg:(ts.map acV).getD i []=acV ts[i]:=by simp [List.getD,hi]
 have ep:(ts.map (·.2)).getD i default=ts[i].2:=by simp [List.getD,hi]
 rw [eg] at hc
 rw [ep]
 exact ⟨b,o,ts[i].1,hx,hc 0 _ rfl,hc 1 _ rfl,hr _ (List.getElem_mem _),World.block_lt_of_cell? w _ (hc 0 _ rfl)⟩
theorem flat14_snoc {k:Nat} (h:k < l.length):flat14 (l.take (k + 1))=flat14 (l.take k) ++ (l.getD k default).2:=by
 rw [take_succD h default];unfold flat14;rw [List.flatMap_append];simp
theorem flat14_take (l:List ActB) (k:Nat):(flat14 (l.take k)).length≤(flat14 l).length:=by
 have e:flat14 l=flat14 (l.take k) ++ flat14 (l.drop k):=by
  unfold flat14
  rw [← List.flatMap_append,List.take_append_drop]
 rw [e,List.length_append];omega
theorem flat14_one {k:Nat} (h:k < l.length):(l.getD k default).2.length≤(flat14 l).length:=by
 have h1:=flat14_take l (k + 1)
 rw [flat14_snoc h,List.length_append] at h1;omega
end
def few14 (l:List ActB):Prop:=l.length≤30∧(flat14 l).length≤200∧fewG (flat14 l)
def Xbox (w:World) (b:Nat) (k:Int) (pv:Value):Prop:=w.heap[b]?=some (.cells #[.int .i64 k,pv] 35 (0,0))
theorem Xbox.cells {w:World} {b:Nat} {k:Int} {pv:Value} (h:Xbox w b k pv):w.cell? ⟨b,0,none⟩=some (.int .i64 k)∧w.cell? ⟨b,1,none⟩=some pv :=
 ⟨cell_of_row _ _ 0 _ _ _ h,cell_of_row _ _ 1 _ _ _ h⟩
theorem Xbox.later {w w':World} {b:Nat} {k:Int} {pv:Value} (h:Xbox w b k pv) (hb:Below w.heap.size w w'):Xbox w' b k pv:=(hb.block b (Array.getElem?_eq_some_iff.1 h).1).trans h
set_option maxHeartbeats 8000000 in
theorem law14_great (v:Value) (l:List ActB) (w:World) (hA:RdA14 w v l) (hU:(flat14 l).length≤1048576) :
  Calls Tryz.prog 11 #[v] w (GrO13 w (few14 l)):=by
 obtain ⟨aa,na,ca,rfl⟩:=hA.lit
 have hlen:=hA.len
 have hsm:=hA.small
 have HA:=h_ hA
 have HU:=h_ (fun k=>Nat.le_trans (flat14_take l k) hU)
 obtain ⟨n,hn⟩:∃ n,n=l.length:=⟨_,rfl⟩
 rw [← hn] at hlen hsm
 have HN:=h_ hn
 clear hA hU hn
 go_enter Tryz.func11,Tryz.ntmps11
 go_wp2
 go_loopw [3,8] (fun al i wr=>∃ k:Nat,k≤n∧i=.int .i64 k∧Hid (OwnP wr w.heap.size al (flat14 (l.take k)))∧Hid (Below w.heap.size w wr)) (fun _ i _=>n - (intOf i).toNat)
 case atStart=>exact ⟨0,by omega,rfl,h_ (OwnP.nil _ _),h_ (Below.refl _ _)⟩
 case round =>
  obtain ⟨k,hk,rfl,HO,HB⟩:=hrel
  by_cases hlt:k < n
  ·have hkn:k < l.length:=by rw [← HN.out];exact hlt
   obtain ⟨b9,o9,pv,hidx,y0,y1,hpv,hbl⟩:=HA.out.get hkn
   have e0:=keep_cell HB.out y0
   have e1:=keep_cell HB.out y1
   clear y0 y1
   have hfs:=flat14_snoc hkn
   have hfl:=HU.out (k + 1)
   obtain ⟨⟨kd,ps⟩,hx⟩:∃ x,x=l.getD k default:=⟨_,rfl⟩
   rw [← hx] at e0 hpv hfs
   dsimp only at e0 e1 hpv hfs
   rw [hfs,List.length_append] at hfl
   have HFS:=h_ hfs
   have HFL:=h_ hfl
   obtain ⟨ap,np,cp,rfl⟩:=hpv.lit12
   obtain ⟨us,hu1,hu2,hu3⟩:=hpv.app
   obtain ⟨w7,hw7⟩:∃ w7,w7=wr.alloc (.cells #[.int .i64 kd,.slice ap np cp] 35):=⟨_,rfl⟩
   have hbb:=(Below.refl wr.heap.size wr).alloc l_ (.cells #[.int .i64 kd,.slice ap np cp] 35)
   have hg7:=heap_alloc_new wr (.cells #[.int .i64 kd,.slice ap np cp] 35)
   have ha7:=HO.out.alloc (.cells #[.int .i64 kd,.slice ap np cp] 35)
   rw [← hw7] at hbb hg7 ha7
   have hb7:=HB.out.trans (hbb.mono HB.out.size)
   obtain ⟨hu4,hu5⟩:=hu3 w7 hb7
   have hu6:=hu5 u3 (fun g hg=>(HO.out.lt hg).1)
   have q2:=cell_of_row _ _ 1 _ _ _ hg7
   simp at q2
   clear hx hfs hfl hu3 hu5 hg7 hbb hpv hkn
   subst hw7
   go_wp2_with (with_reducible refine wplP_appendAll w.heap.size u3 ?hs ha7 (.slice ap np cp) ?hx us hu4 hu6 ?hn ?hbase w.heap.size w hb7 l_ ?_)
   case hs=>rfl
   case hx=>rfl
   case hn=>have:=HFL.out;rw [hu2];omega
   case hbase=>exact hb7.size
   intro v8 w8 ho8 hb8 hg8 _
   have HA8:=h_ (show OwnP w8 w.heap.size v8 (flat14 (l.take (k + 1))) from by rw [HFS.out,← hu1];exact ho8)
   have HB8:=h_ hb8
   clear ho8 hb8 hg8 ha7 hb7 hu4 hu6 hu1 hu2 q2 e0 e1 HO HB
   go_wp2
   go_roundw
   case rel=>exact ⟨k + 1,by omega,by go_num,HA8,HB8⟩
   case measure=>simp [intOf];omega
  ·obtain rfl:k=n:=by omega
   have ha:OwnP wr w.heap.size u3 (flat14 l):=by
    have:=HO.out
    rwa [List.take_of_length_le (by rw [HN.out];exact l_)] at this
   have hfl:(flat14 l).length≤1048576:=Nat.le_trans (by have:=HU.out l.length;rwa [List.take_length] at this) l_
   have hr:=ha.rd (by omega)
   have hlf:=hr.len
   obtain ⟨ar,nr,cr,rfl⟩:=hr.lit12
   have GG:=h_ (great_one13 (.slice ar nr cr) (flat14 l) wr hr)
   have HB9:=h_ (HB.out.alloc HB.out.size (.cells #[.slice ar nr cr] 33))
   obtain ⟨m,hm⟩:∃ m,m=(flat14 l).length:=⟨_,rfl⟩
   rw [← hm] at hlf hfl
   have HM:=h_ hm
   clear ha hr HO hm hlt
   by_cases h30:30 < k
   ·have d1:decide ((k:Int) > 30)=true:=decide_eq_true (by omega)
    have h3:=HB.out
    clear h30 GG HB9
    go_wp2
    go_ret
    exact ⟨1,rfl,.inr rfl,fun h=>absurd h (by decide),HB.out⟩
   ·have d1:decide ((k:Int) > 30)=false:=decide_eq_false (by omega)
    by_cases h200:200 < m
    ·have d2:decide ((m:Int) > 200)=true:=decide_eq_true (by omega)
     clear h30 h200 GG HB9
     go_wp2
     go_ret
     exact ⟨1,rfl,.inr rfl,fun h=>absurd h (by decide),HB.out⟩
    ·have d2:decide ((m:Int) > 200)=false:=decide_eq_false (by omega)
     have HF3:=h_ (show l.length≤30∧(flat14 l).length≤200 from ⟨by rw [← HN.out];omega,by rw [← HM.out];omega⟩)
     clear h30 h200
     go_wp2_with fail
     refine GG.out.mono ?_
     rintro e w8 ⟨y,rfl,hy,hf,hb⟩
     have HF:=h_ hf
     have HB10:=h_ (HB9.out.trans (hb.mono HB9.out.size))
     have HY:=h_ hy
     clear hf hb hy GG
     go_wp2
     go_ret
     exact ⟨y,rfl,HY.out,fun h=>⟨HF3.out.1,HF3.out.2,HF.out h⟩,HB10.out⟩
end Go.Proofs.YtpcobefhgkiolaaGreatDoor


/- -/
namespace Go.Proofs.YtpcobefhgkiolaaGreatDoor
open Go.ChangeShapes Go.WideShapes Go.ChangeAt Go.RowKit Go.Shelf Go.Deep
section
variable {H:Type} {enc:TypeId × Value→H} {W:World}
theorem bulk_pos (d:DataW H):1≤Rows.uptoBulk d:=by
 cases d with
 | lit x=>cases x <;> simp [Rows.uptoBulk]
 | _=>simp [Rows.uptoBulk]
theorem bulk_many:∀ l:List (DataW H),l.length≤Rows.uptoBulkAll l
 | []=>by simp
 | d :: r=>by
  have h1:=bulk_many r
  have h2:=bulk_pos d
  simp only [Rows.uptoBulkAll,List.length_cons];omega
theorem bulk_sum {n:Nat} {f:Nat→Nat} {D:Nat→DataW H} (h:∀ i,i < n→f i≤Rows.uptoBulk (D i)):((List.range n).map f).sum≤Rows.uptoBulkAll ((List.range n).map D):=by
 have key:∀ l:List Nat,(∀ i ∈ l,i < n)→(l.map f).sum≤Rows.uptoBulkAll (l.map D):=by
  intro l
  induction l with
  | nil=>intro _;simp
  | cons i r ih =>
   intro hi
   have h1:=ih fun j hj=>hi j (by simp [hj])
   have h2:=h i (hi i (by simp))
   simp only [List.map_cons,List.sum_cons,Rows.uptoBulkAll];omega
 exact key _ fun i hi=>List.mem_range.1 hi
theorem pairs_bulk {fuel:Nat} {v:Value} {d:DataW H} {pl:List MemPlace} {ps:List PairB} (hf:DataW.trod enc Tryz.prog W 0 (fun _=>true) true fuel 33 [v]=some (d,pl)) (hr:RdP W v ps):ps.length≤Rows.uptoBulk d:=by
 obtain ⟨ts,rfl,hG,_⟩:=hr
 obtain ⟨ao,cap,hv,_⟩:=RdG.shape hG
 rw [List.length_map] at hv ⊢
 rcases open_slice Tryz.underlying33 hf with ⟨hcs,_⟩ | ⟨x,len,c,m,n,D,Pl,hcs,_,hl,hm,hmm,hx,hcell⟩
 ·rw [hv] at hcs
  simp at hcs
  have:ts.length=0:=by simp [hcs]
  omega
 ·rw [hv] at hcs
  simp at hcs
  simp only [Prod.mk.injEq] at hx
  obtain ⟨rfl,_⟩:=hx
  have h1:=bulk_many ((List.range len).map D)
  rw [List.length_map,List.length_range] at h1
  simp only [Rows.uptoBulk]
  omega
theorem cells_act14:Tryz.prog.cellsOf 35=2:=by kernel_rfl
theorem act_part {m:Nat} {cs:List Value} {x:DataW H × List MemPlace} (h:DataW.trod enc Tryz.prog W 0 (fun _=>true) true m 35 cs=some x) (hw:∀ n ∈ x.1.weights Tryz.prog 35,n≤reachBytes) :
  ∃ t:ActV,cs=acV t∧RdP W t.1 t.2.2∧(inW t.2.1∧PSO t.2.2)∧t.2.2.length≤Rows.uptoBulk x.1:=by
 obtain ⟨y0,y1,k,hx,hl,h0,h1⟩:=trod_struct2 Tryz.underlying35 h
 rw [cells_act14] at hl
 match cs,hl with
 | [c0,c1],_ =>
  have k9:Tryz.prog.cellsOf 3=1:=by kernel_rfl
  have k7:Tryz.prog.cellsOf 33=1:=by kernel_rfl
  simp [k9,k7] at h0 h1
  obtain ⟨a,e0,e1,wa⟩:=DataW.trod_int Tryz.underlying3 h0
  simp at e0
  subst e0
  obtain ⟨ps,hr,hp,_⟩:=pairs_core (d:=y1.1) (pl:=y1.2) h1 (fun n hn=>hw n (by
   rw [hx]
   simp only [DataW.weights,Tryz.underlying35]
   simp [DataW.weightsEach,hn]))
  have hb:=pairs_bulk (d:=y1.1) (pl:=y1.2) h1 hr
  refine ⟨(c1,(a,ps)),rfl,hr,⟨bd_i64 wa,hp⟩,?_⟩
  rw [hx]
  simp only [Rows.uptoBulk,Rows.uptoBulkAll]
  show ps.length≤_
  omega
theorem acts_coreU {fuel:Nat} {v:Value} {d:DataW H} {pl:List MemPlace} (hf:DataW.trod enc Tryz.prog W 0 (fun _=>true) true fuel 23 [v]=some (d,pl)) (hzd:∀ n ∈ d.weights Tryz.prog 23,n≤reachBytes):∃ l,RdA14 W v l∧ACO l∧(flat14 l).length≤Rows.uptoBulk d:=by
 have hb1:1≤Tryz.prog.bytesOf 35:=Nat.le_of_ble_eq_true (by kernel_rfl)
 rcases open_slice Tryz.underlying23 hf with ⟨hcs,_⟩ | ⟨x,len,c,m,n,D,Pl,hcs,_,hl,hm,hmm,hx,hcell⟩
 ·obtain rfl:v=.slice none 0 0:=by simpa using hcs
  exact ⟨[],⟨[],rfl,RdG.nil actElt W,by simp⟩,fun c hc=>absurd hc (by simp),by simp [flat14]⟩
 ·obtain rfl:v=.slice (some x) len c:=by simpa using hcs
  simp only [Prod.mk.injEq] at hx
  obtain ⟨rfl,_⟩:=hx
  simp only [if_true] at hmm
  subst hmm
  have hw:∀ i,i < len→∀ k ∈ (D i).weights Tryz.prog 35,k≤reachBytes:=fun i hi k hk=>by
   refine hzd k ?_
   rw [DataW.weights]
   simp only [Tryz.underlying23]
   refine List.mem_cons_of_mem _ (List.mem_append.2 (.inl (weights_mem_all5 hk ?_)))
   exact List.mem_map.2 ⟨i,List.mem_range.2 hi,rfl⟩
  have hs:=hzd _ (by rw [DataW.weights];simp only [Tryz.underlying23];exact List.mem_cons_self ..)
  simp only [List.length_map,List.length_range,reachBytes] at hs
  have hs2:len≤140737488351232:=by
   have:(len + (m - len)) * 1≤(len + (m - len)) * Tryz.prog.bytesOf 35:=Nat.mul_le_mul_left _ hb1
   omega
  rw [cells_act14] at hcell
  obtain ⟨L,hL⟩:=choose_lt (α:=ActV) (p:=fun i a=>(RdP W a.1 a.2.2∧(inW a.2.1∧PSO a.2.2)∧a.2.2.length≤Rows.uptoBulk (D i))∧∀ j u,(acV a)[j]?=some u→W.cell? ((x.add (i * 2)).add j)=some u) (n:=len) (fun i hi=>by
   obtain ⟨cs',h1,h2⟩:=hcell i (by omega)
   obtain ⟨_,h3,h4⟩:=World.cells?_some h1
   obtain ⟨a,rfl,hr⟩:=act_part h2 (hw i hi)
   refine ⟨a,hr,fun j u hu=>?_⟩
   have hj:j < 2:=by have:=(List.getElem?_eq_some_iff.1 hu).1;simpa [acV] using this
   rw [h4 j hj,hu])
  have hlen:((List.range len).map L).length=len:=by simp
  have e:∀ i,i < len→((List.range len).map L).getD i default=L i:=fun i hi=>by simp [List.getD,hi]
  have hsp:0 < len→∃ b o,x=⟨b,o,none⟩:=by
   intro hp
   have h0:=(hL 0 hp).2 0 _ rfl
   obtain ⟨b,o,sp⟩:=x
   cases sp with
   | none=>exact ⟨b,o,rfl⟩
   | some s =>
    exfalso
    simp only [Addr.add,if_true,World.cell?] at h0
    split at h0 <;> simp at h0
  have hmem:∀ t ∈ (List.range len).map L,RdP W t.1 t.2.2∧inW t.2.1∧PSO t.2.2:=by
   intro t ht
   obtain ⟨i,hi,rfl⟩:=List.mem_map.1 ht
   have:=(hL i (List.mem_range.1 hi)).1
   exact ⟨this.1,this.2.1⟩
  refine ⟨((List.range len).map L).map (·.2),⟨(List.range len).map L,rfl,⟨⟨some x,_,by rw [List.length_map,hlen],by rw [List.length_map,hlen];omega,(by intro h;cases h),fun hp=>?_⟩,?_,?_,by rw [List.length_map,hlen];exact hs2⟩,fun t ht=>(hmem t ht).1⟩,?_,?_⟩
  ·rw [List.length_map,hlen] at hp
   obtain ⟨b,o,rfl⟩:=hsp hp
   exact ⟨b,o,rfl⟩
  ·intro i hi j u hu
   rw [List.length_map,hlen] at hi
   rw [getD_map acV _ i (by rw [hlen];exact hi) default,e i hi] at hu
   have:=(hL i hi).2 j u hu
   obtain ⟨b,o,rfl⟩:=hsp (by omega)
   rw [Addr.add_mid,Addr.add_mid,Nat.add_assoc] at this
   rw [adr_lit]
   exact this
  ·intro z hz
   obtain ⟨t,_,rfl⟩:=List.mem_map.1 hz
   rfl
  ·intro p hp
   obtain ⟨t,ht,rfl⟩:=List.mem_map.1 hp
   exact (hmem t ht).2
  ·have h1:(flat14 (((List.range len).map L).map (·.2))).length=((List.range len).map fun i=>(L i).2.2.length).sum:=by
    unfold flat14
    rw [List.length_flatMap,List.map_map,List.map_map]
    rfl
   have h2:=bulk_sum (D:=D) fun i hi=>(hL i hi).1.2.2
   rw [h1]
   simp only [Rows.uptoBulk]
   omega
theorem acts_openU {base:Nat} {v:Value} {d:DataW H} {pl:List MemPlace} {ts:List TypeId} {ds:List (DataW H)} {j:Nat} (hval:Value.okWide Tryz.prog W .any base 23 v)
  (h:DataW.Trod enc Tryz.prog W 0 (fun _=>true) true 23 v d pl) (hz:(DataW.weightsEach Tryz.prog ts ds).all (·≤reachBytes)=true) (ht:ts[j]?=some 23) (hd:ds[j]?=some d):∃ l,RdA14 W v l∧ACO l∧(flat14 l).length≤Rows.uptoBulk d:=by
 have hzd:∀ n ∈ d.weights Tryz.prog 23,n≤reachBytes:=fun n hn=>by
  have:=List.all_eq_true.1 hz _ (DataW.weights_mem_each ht hd n hn)
  simpa using this
 obtain ⟨a0,len,cap,rfl⟩:=okWide_slice Tryz.underlying23 hval
 obtain ⟨fuel,hf⟩:=h
 exact acts_coreU (v:=.slice a0 len cap) hf hzd
theorem sum_flat14:∀ pss:List (List PairB),pss.flatten.length=((List.range pss.length).map fun i=>(pss.getD i []).length).sum:=fun pss=>by
 have key:∀ (l:List (List PairB)),l.flatten.length=(l.map List.length).sum:=fun l=>by rw [List.length_flatten]
 rw [key]
 congr 1
 apply List.ext_getElem
 ·simp
 ·intro i h1 h2
  simp at h1
  simp [List.getD,h1]
theorem pairss_bulk {fuel:Nat} {v:Value} {d:DataW H} {pl:List MemPlace} {vals:List Value} {pss:List (List PairB)} (hf:DataW.trod enc Tryz.prog W 0 (fun _=>true) true fuel 60 [v]=some (d,pl)) (hC:Chg W v vals pss):pss.flatten.length≤Rows.uptoBulk d:=by
 obtain ⟨ao,cap,hv,_⟩:=RdG.shape hC.rd
 rw [List.length_map] at hv
 have hc1:Tryz.prog.cellsOf 33=1:=by kernel_rfl
 rcases open_slice Tryz.underlying60 hf with ⟨hcs,_⟩ | ⟨x,len,c,m,n,D,Pl,hcs,_,hl,hm,hmm,hx,hcell⟩
 ·rw [hv] at hcs
  simp at hcs
  have:vals.length=0:=by simp [hcs]
  have h2:pss=[]:=List.eq_nil_of_length_eq_zero (by rw [hC.len];exact this)
  rw [h2];simp
 ·rw [hv] at hcs
  simp at hcs
  obtain ⟨rfl,hlen,rfl⟩:=hcs
  simp only [Prod.mk.injEq] at hx
  obtain ⟨rfl,_⟩:=hx
  simp only [if_true] at hmm
  subst hmm
  rw [hc1] at hcell
  have key:∀ i,i < len→(pss.getD i []).length≤Rows.uptoBulk (D i):=fun i hi=>by
   have hi2:i < vals.length:=by omega
   obtain ⟨cs',h1,h2⟩:=hcell i (by omega)
   obtain ⟨_,h3,h4⟩:=World.cells?_some h1
   have h5:=RdG.cells hC.rd i (by rw [List.length_map];exact hi2) 0 (vals.getD i undef) (by rw [getD_map (fun x=>[x]) vals i hi2 undef];rfl)
   have e:adr v (i * pairsE.n + 0)=(x.add (i * 1)).add 0:=by
    rw [hv]
    obtain ⟨b,o,sp⟩:=x
    simp only [adr,Addr.add]
    cases sp <;> simp [pairsE]
   rw [e] at h5
   have h6:=h4 0 (by omega)
   rw [h5] at h6
   match cs',h3 with
   | [c0],_ =>
    have h7:vals.getD i undef=c0:=by simpa using h6
    have h8:=(hC.each i hi2).1
    rw [h7] at h8
    exact pairs_bulk (d:=D i) (pl:=Pl i) h2 h8
  have h9:=bulk_sum (D:=D) (f:=fun i=>(pss.getD i []).length) key
  rw [sum_flat14,hC.len,hlen]
  simp only [Rows.uptoBulk]
  omega
theorem pairss_openU {base:Nat} {v:Value} {d:DataW H} {pl:List MemPlace} {ts:List TypeId} {ds:List (DataW H)} {j:Nat} (hval:Value.okWide Tryz.prog W .any base 60 v)
  (h:DataW.Trod enc Tryz.prog W 0 (fun _=>true) true 60 v d pl) (hz:(DataW.weightsEach Tryz.prog ts ds).all (·≤reachBytes)=true) (ht:ts[j]?=some 60) (hd:ds[j]?=some d) :
  ∃ (vals:List Value) (pss:List (List PairB)),Chg W v vals pss∧pss.flatten.length≤Rows.uptoBulk d:=by
 obtain ⟨vals,pss,h1,h2,h3⟩:=pairss_open hval h hz ht hd
 have hC:Chg W v vals pss:=⟨h1,h2,fun i hi=>⟨(h3 i hi).1,(h3 i hi).2.1⟩⟩
 obtain ⟨fuel,hf⟩:=h
 obtain ⟨a0,len,cap,rfl⟩:=okWide_slice Tryz.underlying60 hval
 exact ⟨vals,pss,hC,pairss_bulk (v:=.slice a0 len cap) hf hC⟩
end
end Go.Proofs.YtpcobefhgkiolaaGreatDoor


/- -/
namespace Go.Proofs.YtpcobefhgkiolaaGreatDoor
open Go.RowKit Go.Shelf
def ex14P:List PairB:=[(ex10A,2),(ex10A,-1)]
def ex14Q:List PairB:=[(ex10A,1)]
theorem ex14A_ok:CES ex10A:=fun c hc=>by
 simp [ex10A] at hc
 rcases hc with rfl | rfl <;> exact ⟨by decide,by decide⟩
theorem ex14P_ok:PSO ex14P:=by
 intro p hp
 simp [ex14P] at hp
 rcases hp with rfl | rfl
 ·exact ⟨ex14A_ok,by decide,by decide⟩
 ·exact ⟨ex14A_ok,by decide,by decide⟩
theorem ex14Q_ok:PSO ex14Q:=by
 intro p hp
 simp [ex14Q] at hp
 subst hp
 exact ⟨ex14A_ok,by decide,by decide⟩
theorem ex14_fine:errS (colsL ex10C)=0:=by decide +kernel
theorem ex14_clc:clcE ex10C ex14P=0∧clcO ex10C ex14P=ex14Q:=by decide +kernel
theorem ex14_d:apE ex10C 0 [] (0,1,ex14Q)=0∧apN ex10C 0 [] (0,1,ex14Q)=1∧apV ex10C 0 [] (0,1,ex14Q)=ex14Q:=by decide +kernel
theorem ex14_s:apE ex10C 1 ex14Q (1,1,ex14Q)=0∧apN ex10C 1 ex14Q (1,1,ex14Q)=1:=by decide +kernel
theorem ex14_w1:(entW ex10C (0,1,ex14Q)).2=0:=by decide +kernel
theorem ex14_w2:(entW ex10C (1,1,ex14Q)).2=0:=by decide +kernel
def ex14X:List EntB:=[(0,1,ex14Q)]
theorem ex14_start:TrS ex10C []∧trE ex10C []=(hdB (colsL ex10C),0,[],0,0):=TrS.nil ex10C_ok ex14_fine
theorem ex14_act1:actE ex10C [] (0,ex14P)=0∧actX ex10C [] (0,ex14P)=(0,1,ex14Q):=by
 have hX:actX ex10C [] (0,ex14P)=(0,1,ex14Q):=by
  unfold actX
  rw [if_pos rfl,ex14_start.2]
  dsimp only
  rw [ex14_clc.2]
  rfl
 refine ⟨?_,hX⟩
 unfold actE
 rw [if_neg (by simp),if_neg (by rw [ex14_clc.1];simp),hX]
 unfold layE
 rw [ex14_start.2]
 dsimp only
 rw [ex14_d.1,if_neg (by simp)]
 exact ex14_w1
theorem ex14_out1:actB ex10C [] (0,ex14P)=(entW ex10C (0,1,ex14Q)).1∧actS ex10C [] (0,ex14P)=ex14X:=by
 unfold actB actS
 rw [ex14_act1.1,ex14_act1.2]
 exact ⟨if_pos rfl,if_pos rfl⟩
theorem ex14_mid:TrS ex10C ex14X∧(trE ex10C ex14X).2.1=1∧(trE ex10C ex14X).2.2.1=ex14Q:=by
 obtain ⟨t1,t2⟩:=act_next ex14_start.1 (a:=(0,ex14P)) ex14P_ok ex14_act1.1
 rw [ex14_act1.2] at t1 t2
 rw [ex14_start.2] at t2
 dsimp only at t2
 rw [ex14_d.2.1,ex14_d.2.2] at t2
 refine ⟨t1,?_,?_⟩
 ·show (trE ex10C ([] ++ [(0,1,ex14Q)])).2.1=1
  rw [t2]
 ·show (trE ex10C ([] ++ [(0,1,ex14Q)])).2.2.1=ex14Q
  rw [t2]
theorem ex14_act2:actE ex10C ex14X (1,[])=0∧actX ex10C ex14X (1,[])=(1,1,ex14Q):=by
 have hX:actX ex10C ex14X (1,[])=(1,1,ex14Q):=by
  unfold actX
  rw [if_neg (by decide),ex14_mid.2.1,ex14_mid.2.2]
 refine ⟨?_,hX⟩
 unfold actE
 rw [if_neg (by simp [ex14X]),if_neg (by simp),hX]
 unfold layE
 rw [ex14_mid.2.1,ex14_mid.2.2,ex14_s.1,if_neg (by simp)]
 exact ex14_w2
theorem ex14_out2:actB ex10C ex14X (1,[])=(entW ex10C (1,1,ex14Q)).1∧actS ex10C ex14X (1,[])=ex14X ++ [(1,1,ex14Q)]:=by
 unfold actB actS
 rw [ex14_act2.1,ex14_act2.2]
 exact ⟨if_pos rfl,if_pos rfl⟩
theorem ex14_end:(trE ex10C (ex14X ++ [(1,1,ex14Q)])).2.1=1:=by
 obtain ⟨t1,t2⟩:=act_next ex14_mid.1 (a:=(1,[])) (fun p hp=>absurd hp (by simp)) ex14_act2.1
 rw [ex14_act2.2] at t1 t2
 rw [t2]
 dsimp only
 rw [ex14_mid.2.1,ex14_mid.2.2,ex14_s.2]
set_option maxHeartbeats 1000000 in
theorem law14_example (w:World):Calls Tryz.prog 34 #[] w fun e w'=>∃ v,e=.returned v∧RdC w' v ex10C∧Below w.heap.size w w':=by
 have HV1:=h_ (rdC_two10 w (⟨#[105,100]⟩,0) (⟨#[110,97,109,101]⟩,4))
 go_enter Tryz.func34,Tryz.ntmps34
 go_wp2
 go_ret
 exact ⟨_,rfl,HV1.out,(Below.refl _ _).alloc l_ _⟩
theorem rdP14_of (w:World) (ts:List TriB) (h:∀ t ∈ ts,RdE w t.1 t.2.1) (hs:ts.length≤100) {b:Nat} (hb:w.heap[b]?=some (.cells (ts.map triV).flatten.toArray 78 (0,0))) :
  RdP w (.slice (some ⟨b,0,none⟩) ts.length ts.length) (ts.map (·.2)):=by
 have hf:(ts.map triV).flatten.length=ts.length * 2:=by
  rw [flatG_len (n:=2) _ (fun x hx=>by obtain ⟨t,_,rfl⟩:=List.mem_map.1 hx;rfl),List.length_map]
 have ho:OwnG pairE w b (.slice (some ⟨b,0,none⟩) ts.length ts.length) (ts.map triV):=by
  refine ⟨⟨by rw [hf,List.length_map];rfl,.inr ⟨b,ts.length,(ts.map triV).flatten.toArray,by rw [List.length_map],l_,hb,?_⟩⟩,fun x hx=>?_,fun x hx u hu=>?_⟩
  ·refine ⟨by rw [List.length_map];exact l_,Nat.le_trans hs (by decide),by rw [List.size_toArray,hf];rfl,?_⟩
   rw [List.length_map]
   exact List.take_of_length_le (by show (ts.map triV).flatten.length≤ts.length * 2;rw [hf];exact l_)
  ·obtain ⟨t,_,rfl⟩:=List.mem_map.1 hx;rfl
  ·obtain ⟨t,ht,rfl⟩:=List.mem_map.1 hx;exact triV_one (h t ht) u hu
 exact ⟨ts,rfl,ho.rd (by rw [List.length_map];omega),h⟩
theorem row14 {w w':World} {r n c:Nat} {l:List CellB} (h:RdE w (.slice (some ⟨r,0,none⟩) n c) l) (hk:w'.heap[r]?=w.heap[r]?):RdE w' (.slice (some ⟨r,0,none⟩) n c) l :=
 RdG.same h fun i hi=>by rw [adr_lit];exact hk
set_option maxHeartbeats 16000000 in
theorem law14_alive (w:World) (hT:Tabs w) (hF:Frs w) :
  Calls Tryz.prog 10 #[] w fun e w'=>e=.returned (.bool true)∧Below w.heap.size w w':=by
 have HT:=h_ (fun wz (hz:Below w.heap.size w wz)=>hT.later hz)
 have HF:=h_ (fun wz (hz:Below w.heap.size w wz)=>hF.later hz)
 clear hT hF
 go_enter Tryz.func10,Tryz.ntmps10
 go_wp2_with fail
 refine (law14_example w).mono ?_
 rintro e w1 ⟨v1,rfl,hc,hb⟩
 have HB1:=h_ hb
 have NW:=h_ (writer_New v1 ex10C w1 hc ex10C_ok (HT.out w1 hb))
 clear hc hb
 go_wp2_with fail
 refine NW.out.mono ?_
 rintro e w2 ⟨v2,rfl,hb,hw⟩
 rcases hw with ⟨h0,_⟩ | ⟨_,g,bv,rfl,hw⟩
 ·exact absurd ex14_fine h0
 have HB2:=h_ (HB1.out.trans (hb.mono HB1.out.size))
 have HWR2:=h_ (hw (fun _=>False) (fun j h=>h.elim))
 have HS2:=h_ (show ∀ j,(j=g∨bv.ownBlock=some j)→j < w2.heap.size from fun j hj=>hj.elim (fun e=>by rw [e];exact HWR2.out.lt) fun e=>(HWR2.out.own.lt14 e).2)
 have hN1:=HB1.out.size
 rw [ex14_fine]
 clear hw hb NW
 go_wp2_with fail
 refine (cell_Int10 1 1 (by decide) _).mono ?_
 rintro e w3 ⟨rfl,hb⟩
 have HB3:=h_ (HB2.out.trans (hb.mono HB2.out.size))
 have hw23:=hb.size
 have HWR3:=h_ (HWR2.out.later hb)
 have HR3:=h_ (rdE_two10 w3 (1,⟨#[]⟩) (0,⟨#[97]⟩))
 clear hb HWR2
 have b4:=(Below.refl w3.heap.size w3).alloc l_ (.cells #[.int .u64 1,.string ⟨#[]⟩,.int .u64 0,.string ⟨#[97]⟩] 83)
 have hs4:(w3.alloc (.cells #[.int .u64 1,.string ⟨#[]⟩,.int .u64 0,.string ⟨#[97]⟩] 83)).heap.size=w3.heap.size + 1:=by simp
 have hb5:=fun o=>(Below.refl (w3.alloc (.cells #[.int .u64 1,.string ⟨#[]⟩,.int .u64 0,.string ⟨#[97]⟩] 83)).heap.size _).alloc l_ o
 have hn5:=fun o=>heap_alloc_new (w3.alloc (.cells #[.int .u64 1,.string ⟨#[]⟩,.int .u64 0,.string ⟨#[97]⟩] 83)) o
 rw [hs4] at hn5
 obtain ⟨w5,hw5⟩:∃ w5,w5=(w3.alloc (.cells #[.int .u64 1,.string ⟨#[]⟩,.int .u64 0,.string ⟨#[97]⟩] 83)).alloc (.cells #[.slice (some ⟨w3.heap.size,0,none⟩) 2 2,.int .i64 2,.slice (some ⟨w3.heap.size,0,none⟩) 2 2,.int .i64 (-1)] 78):=⟨_,rfl⟩
 have HR5:=h_ (HR3.out.later (hb5 (.cells #[.slice (some ⟨w3.heap.size,0,none⟩) 2 2,.int .i64 2,.slice (some ⟨w3.heap.size,0,none⟩) 2 2,.int .i64 (-1)] 78)) l_)
 have HP5:RdP w5 (.slice (some ⟨w3.heap.size + 1,0,none⟩) 2 2) ex14P:=by
  rw [hw5]
  exact rdP14_of _ [(.slice (some ⟨w3.heap.size,0,none⟩) 2 2,(ex10A,2)),(.slice (some ⟨w3.heap.size,0,none⟩) 2 2,(ex10A,-1))] (fun t ht=>by
   simp at ht
   rcases ht with rfl | rfl
   ·exact HR5.out
   ·exact HR5.out) (by simp) (hn5 _)
 have h35:Below w3.heap.size w3 w5:=by rw [hw5];exact b4.trans ((hb5 _).mono b4.size)
 rw [← hw5] at HR5
 have HB5:=h_ (HB3.out.trans (h35.mono HB3.out.size))
 have HWR5:=HWR3.out.later h35
 have AP:=h_ (writer_Append w1.heap.size g bv (.slice (some ⟨w3.heap.size + 1,0,none⟩) 2 2) ex10C [] ex14P (fun _=>False) w5 HWR5 (fun j h=>h.elim) HP5 ex14P_ok (by decide) (HT.out w5 HB5.out) (HF.out w5 HB5.out))
 rw [ex14_act1.1,ex14_out1.1,ex14_out1.2] at AP
 obtain ⟨r3,hr3⟩:∃ r3,r3=w3.heap.size:=⟨_,rfl⟩
 have HG3:=h_ (And.intro hr3 hw5)
 have HRR:=h_ (show RdE w5 (.slice (some ⟨r3,0,none⟩) 2 2) ex10A from by rw [hr3];exact HR5.out)
 have HWR5:=h_ HWR5
 have hr3l:w2.heap.size≤r3∧r3 < w5.heap.size:=by
  rw [hr3,hw5]
  refine ⟨hw23,?_⟩
  simp;omega
 clear h35 HP5 hn5 hb5 hs4 b4 HR5 HR3 HWR3 HB3 hw23
 go_wp2_with fail
 rw [← hw5]
 refine AP.out.mono ?_
 rintro e w6 ⟨xa,bn,rfl,hx,hw,hO,hp⟩
 obtain ⟨a6,n6,c6,rfl⟩:=hx.lit13
 rw [← hr3]
 have HB6:=h_ (HB5.out.trans ((HWR5.out.below hO).mono hN1))
 have HR6:=h_ (row14 HRR.out (hO.block r3 hr3l.2 fun hs=>by have:=HS2.out r3 hs;omega))
 have HS6:=h_ (show ¬ (r3=g∨bn.ownBlock=some r3) from fun hs=>by
  rcases hs with hs | hs
  ·have:=HS2.out r3 (.inl hs);omega
  ·rcases hp with e | hp
   ·rw [e] at hs;have:=HS2.out r3 (.inr hs);omega
   ·have:=hp r3 hs;omega)
 have hr6:r3 < w6.heap.size:=Nat.lt_of_lt_of_le hr3l.2 hO.size
 have HX6:=h_ hx
 have HWR6:=h_ hw
 have SN:=h_ (writer_Snap w1.heap.size g bn ex10C ex14X [] (fun j=>False∨(Value.slice a6 n6 c6).ownBlock=some j) w6 hw (fun j hj=>hj.elim (fun h=>h.elim) fun h=>(hx.lt14 h).2) (fun p hp=>absurd hp (by simp)) 1 (by decide) (HT.out w6 HB6.out) (HF.out w6 HB6.out))
 rw [ex14_act2.1,ex14_out2.1,ex14_out2.2] at SN
 clear hw5 HG3 hr3 hx hw hO hp AP HRR HWR5 HS2 hr3l
 go_wp2_with fail
 refine SN.out.mono ?_
 rintro e w7 ⟨xb,bm,rfl,hx2,hw2,hO2,hp2⟩
 obtain ⟨a7,n7,c7,rfl⟩:=hx2.lit13
 have HB7:=h_ (HB6.out.trans ((HWR6.out.below hO2).mono hN1))
 have HR7:=h_ (row14 HR6.out (hO2.block r3 hr6 HS6.out))
 have HX7:=h_ (show Own w7 w5.heap.size (.slice a6 n6 c6) _ from HX6.out.stay hO2 fun q hq hs=>by
  have:=HWR6.out.free q (.inr hq)
  rcases hs with hs | hs
  ·exact this.1 hs
  ·exact this.2 hs)
 have HY7:=h_ hx2
 have HWR7:=h_ hw2
 have hb8:=(Below.refl w7.heap.size w7).alloc l_ (.cells #[.slice (some ⟨r3,0,none⟩) 2 2,.int .i64 1] 78)
 have HP8:=h_ (rdP14_of (w7.alloc (.cells #[.slice (some ⟨r3,0,none⟩) 2 2,.int .i64 1] 78)) [(.slice (some ⟨r3,0,none⟩) 2 2,(ex10A,1))] (fun t ht=>by
  simp at ht
  subst ht
  exact HR7.out.later hb8 l_) (by simp) (heap_alloc_new _ _))
 obtain ⟨w8,hw8⟩:∃ w8,w8=w7.alloc (.cells #[.slice (some ⟨r3,0,none⟩) 2 2,.int .i64 1] 78):=⟨_,rfl⟩
 obtain ⟨p8,hp8⟩:∃ p8,p8=w7.heap.size:=⟨_,rfl⟩
 rw [← hw8,← hp8] at HP8
 have HB78:=h_ (show Below w7.heap.size w7 w8 from by rw [hw8];exact hb8)
 have HP8:=h_ (show RdP w8 (.slice (some ⟨p8,0,none⟩) 1 1) ex14Q from HP8.out)
 have HB8:=h_ (HB7.out.trans (HB78.out.mono HB7.out.size))
 have HW8:=h_ hw8
 have HPP:=h_ hp8
 clear hx2 hw2 hO2 hp2 SN HR6 HS6 hr6 HX6 HWR6 hb8 hw8 hp8
 go_wp2_with fail
 rw [← HW8.out,← HPP.out]
 refine (law14_example w8).mono ?_
 rintro e w9 ⟨v9,rfl,hc,hb⟩
 have HB89:=h_ hb
 have EW:=h_ (entry_Write v9 (.agg #[.int .i64 0,.int .i64 1,.slice (some ⟨p8,0,none⟩) 1 1]) ex10C (0,1,ex14Q) w9 hc ⟨_,rfl,HP8.out.later hb l_⟩ ex10C_ok ⟨by unfold inW;dsimp only;omega,by unfold inW;dsimp only;omega,ex14Q_ok⟩ (HT.out w9 (HB8.out.trans (hb.mono HB8.out.size))) (HF.out w9 (HB8.out.trans (hb.mono HB8.out.size))))
 unfold RetW at EW
 rw [ex14_w1] at EW
 clear hc hb
 go_wp2_with fail
 refine EW.out.mono ?_
 rintro e w10 ⟨xc,rfl,hx,hb⟩
 obtain ⟨a10,n10,c10,rfl⟩:=hx.lit13
 have HX10:=h_ hx
 have HB810:=h_ (HB89.out.trans (hb.mono HB89.out.size))
 clear hx hb EW HB89
 go_wp2_with fail
 refine (law14_example w10).mono ?_
 rintro e w11 ⟨v11,rfl,hc,hb⟩
 have HB811:=h_ (HB810.out.trans (hb.mono HB810.out.size))
 have HX11:=h_ (HX10.out.later hb l_)
 have HB11:=h_ (HB8.out.trans (HB811.out.mono HB8.out.size))
 have EW:=h_ (entry_Write v11 (.agg #[.int .i64 1,.int .i64 1,.slice (some ⟨p8,0,none⟩) 1 1]) ex10C (1,1,ex14Q) w11 hc ⟨_,rfl,HP8.out.later HB811.out l_⟩ ex10C_ok ⟨by unfold inW;dsimp only;omega,by unfold inW;dsimp only;omega,ex14Q_ok⟩ (HT.out w11 HB11.out) (HF.out w11 HB11.out))
 unfold RetW at EW
 rw [ex14_w2] at EW
 clear hc hb HB810 HX10
 go_wp2_with fail
 refine EW.out.mono ?_
 rintro e w12 ⟨xd,rfl,hx,hb⟩
 obtain ⟨a12,n12,c12,rfl⟩:=hx.lit13
 have HB712:=h_ (HB78.out.trans ((HB811.out.trans (hb.mono HB811.out.size)).mono HB78.out.size))
 have HB12:=h_ (HB7.out.trans (HB712.out.mono HB7.out.size))
 have hl1:(entW ex10C (0,1,ex14Q)).1.length≤140737488351232:=by have:=entW_small ex10C (0,1,ex14Q);omega
 have hl2:(entW ex10C (1,1,ex14Q)).1.length≤140737488351232:=by have:=entW_small ex10C (1,1,ex14Q);omega
 have SE:=h_ (writer_Seq (HWR7.out.later HB712.out))
 have MA:=h_ (writer_Many (HWR7.out.later HB712.out))
 rw [ex14_end] at SE
 have s1:=((HX7.out.later HB712.out l_).rd hl1).str
 have s2:=((HY7.out.later HB712.out l_).rd hl2).str
 have s3:=((HX11.out.later hb l_).rd hl1).str
 have s4:=(hx.rd hl2).str
 clear hx hb EW HX11 HB811 HB11 HX7 HY7 HP8 HW8 HPP HB78 HB8 hl1 hl2
 go_wp2_with fail
 refine SE.out.mono ?_
 rintro e w13 ⟨rfl,rfl⟩
 go_wp2_with fail
 refine MA.out.mono ?_
 rintro e w13 ⟨rfl,rfl⟩
 go_wp2
 go_ret
 exact ⟨rfl,HB12.out⟩
end Go.Proofs.YtpcobefhgkiolaaGreatDoor


/- -/
namespace Go.Proofs.YtpcobefhgkiolaaGreatDoor
open Go.RowKit Go.Shelf
theorem TrS.take {cs:List ColB} {es:List EntB} (h:TrS cs es) {k:Nat} (hk:k≤es.length):TrS cs (es.take k) :=
 ⟨h.sch,fun x hx=>h.en x (List.mem_of_mem_take hx),(trE_take h.en h.ok hk).1⟩
structure Steps (cs:List ColB) (pss:List (List PairB)) (k:Nat) (es:List EntB):Prop where
 trs:TrS cs es
 len:es.length=k
 seq:(trE cs es).2.1=(k:Int)
 step:∀ i,i < k→es.getD i default=(0,(i:Int) + 1,clcO cs (pss.getD i []))∧clcE cs (pss.getD i [])=0∧sumE cs (trE cs (es.take i)).2.2.1 (clcO cs (pss.getD i []))=0∧sumO cs (trE cs (es.take i)).2.2.1 (clcO cs (pss.getD i []))=(trE cs (es.take (i + 1))).2.2.1
theorem Steps.nil {cs:List ColB} {pss:List (List PairB)} (hC:CS cs) (h0:errS (colsL cs)=0):Steps cs pss 0 []:=by
 obtain ⟨h1,h2⟩:=TrS.nil hC h0
 exact ⟨h1,rfl,by rw [h2];rfl,fun i hi=>absurd hi (by omega)⟩
theorem Steps.next {cs:List ColB} {pss:List (List PairB)} {k:Nat} {es:List EntB} (h:Steps cs pss k es) (hP:PSO (pss.getD k [])) (hE:actE cs es (0,pss.getD k [])=0):Steps cs pss (k + 1) (actS cs es (0,pss.getD k [])):=by
 obtain ⟨t1,t2⟩:=act_next h.trs (a:=(0,pss.getD k [])) hP hE
 obtain ⟨h1,h2,h3⟩:=act_zero hE
 have hX:actX cs es (0,pss.getD k [])=(0,(k:Int) + 1,clcO cs (pss.getD k [])):=by
  unfold actX
  rw [if_pos rfl,h.seq]
 have hA:apE cs (trE cs es).2.1 (trE cs es).2.2.1 (actX cs es (0,pss.getD k []))=0:=by
  unfold layE at h3
  by_cases h9:apE cs (trE cs es).2.1 (trE cs es).2.2.1 (actX cs es (0,pss.getD k []))=0
  ·exact h9
  ·rw [if_pos h9] at h3;exact absurd h3 h9
 obtain ⟨_,_,_,h4⟩:=ap_inv hA
 have hS:actS cs es (0,pss.getD k [])=es ++ [actX cs es (0,pss.getD k [])]:=by unfold actS;rw [if_pos hE]
 rcases h4 with ⟨_,_,q1,q2,q3⟩ | ⟨q0,_⟩
 ·rw [hS]
  rw [q2,q3] at t2
  have hl:=h.len
  have hk:(es ++ [actX cs es (0,pss.getD k [])]).length=k + 1:=by rw [List.length_append,hl];rfl
  have ht:∀ i,i≤k→(es ++ [actX cs es (0,pss.getD k [])]).take i=es.take i:=fun i hi=>by rw [List.take_append_of_le_length (by omega)]
  refine ⟨t1,hk,by rw [t2];dsimp only;rw [h.seq];push_cast;rfl,fun i hi=>?_⟩
  by_cases hik:i=k
  ·subst hik
   have e1:(es ++ [actX cs es (0,pss.getD i [])]).getD i default=actX cs es (0,pss.getD i []):=by simp [List.getD,← hl]
   have e2:(es ++ [actX cs es (0,pss.getD i [])]).take (i + 1)=es ++ [actX cs es (0,pss.getD i [])]:=List.take_of_length_le (by omega)
   have e3:es.take i=es:=List.take_of_length_le (by omega)
   rw [e1,e2,ht i l_,e3,t2]
   rw [hX] at q1 ⊢
   exact ⟨rfl,h2 rfl,q1,rfl⟩
  ·have hik2:i < k:=by omega
   have e1:(es ++ [actX cs es (0,pss.getD k [])]).getD i default=es.getD i default:=by simp [List.getD,List.getElem?_append_left (show i < es.length by omega)]
   rw [e1,ht i (by omega),ht (i + 1) (by omega)]
   exact h.step i hik2
 ·rw [hX] at q0
  cases q0
theorem allR_steps {cs:List ColB} {pss:List (List PairB)} (hP:∀ i,i < pss.length→PSO (pss.getD i [])):∀ (f k:Nat) (es:List EntB),pss.length≤k + f→k≤pss.length→Steps cs pss k es →
  ∃ n es',allR cs es (pss.drop k)=(es',if n=pss.length then 0 else actE cs es' (0,pss.getD n []))∧Steps cs pss n es'∧n≤pss.length∧(n < pss.length→actE cs es' (0,pss.getD n [])≠0)
 | 0,k,es,hf,hk,h=>by
  obtain rfl:k=pss.length:=by omega
  refine ⟨pss.length,es,?_,h,l_,fun h=>absurd h (by omega)⟩
  rw [List.drop_of_length_le l_,allR,if_pos rfl]
 | f + 1,k,es,hf,hk,h=>by
  by_cases hk2:k=pss.length
  ·subst hk2
   refine ⟨pss.length,es,?_,h,l_,fun h=>absurd h (by omega)⟩
   rw [List.drop_of_length_le l_,allR,if_pos rfl]
  ·have hk3:k < pss.length:=by omega
   by_cases hE:actE cs es (0,pss.getD k [])=0
   ·rw [allR_go hk3 hE]
    exact allR_steps hP f (k + 1) _ (by omega) (by omega) (h.next (hP k hk3) hE)
   ·refine ⟨k,es,?_,h,hk,fun _=>hE⟩
    rw [allR_bad hk3 hE,if_neg hk2]
theorem step_why {cs:List ColB} {pss:List (List PairB)} {n:Nat} {es:List EntB} (h:Steps cs pss n es) (hP:PSO (pss.getD n [])) (hn:n < 4096) (hl:(pss.getD n []).length≤400) (hE:actE cs es (0,pss.getD n [])≠0) :
  (clcE cs (pss.getD n [])≠0∧actE cs es (0,pss.getD n [])=clcE cs (pss.getD n []))∨(clcE cs (pss.getD n [])=0∧actE cs es (0,pss.getD n [])=sumE cs (trE cs es).2.2.1 (clcO cs (pss.getD n []))):=by
 by_cases hc:clcE cs (pss.getD n [])=0
 ·right
  refine ⟨hc,?_⟩
  have hseq:=h.trs.seq
  have ha:Zs cs (clcO cs (pss.getD n [])):=(clc_ok hP hc).1
  have hal:=clc_len cs (pss.getD n [])
  have e1:actE cs es (0,pss.getD n [])=layE cs es (actX cs es (0,pss.getD n [])):=by
   unfold actE
   rw [if_neg (by rw [h.len];omega),if_neg (by rw [hc];simp)]
  have hX:actX cs es (0,pss.getD n [])=(0,(trE cs es).2.1 + 1,clcO cs (pss.getD n [])):=if_pos rfl
  rw [hX] at e1
  obtain ⟨a1,_,_⟩:=ap_delta (s:=(trE cs es).2.1) h.trs.set ha (by omega)
  rw [e1] at hE ⊢
  unfold layE at hE ⊢
  rw [a1] at hE ⊢
  by_cases h9:sumE cs (trE cs es).2.2.1 (clcO cs (pss.getD n []))=0
  ·rw [if_neg (by rw [h9];simp)] at hE
   exfalso
   apply hE
   have hp:=entP_small (x:=(0,(trE cs es).2.1 + 1,clcO cs (pss.getD n []))) h.trs.parts.1 (by dsimp only;omega) ha (by dsimp only;omega)
   unfold entW
   rw [if_neg (fun hh=>hh (ent_ok ha (.inl rfl) (by omega)))]
   unfold wrF
   rw [if_neg (by dsimp only;omega),if_neg (by omega)]
  ·rw [if_pos h9]
 ·left
  refine ⟨hc,?_⟩
  unfold actE
  rw [if_neg (by rw [h.len];omega),if_pos ⟨rfl,hc⟩]
end Go.Proofs.YtpcobefhgkiolaaGreatDoor

