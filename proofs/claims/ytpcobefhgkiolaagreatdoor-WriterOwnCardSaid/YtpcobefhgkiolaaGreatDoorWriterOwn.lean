/- -/
import Derived.Test.YtpcobefhgkiolaaGreatDoorCWrtP
import Derived.Test.YtpcobefhgkiolaaGreatDoorCWrtL
import Derived.Test.YtpcobefhgkiolaaGreatDoorCBaseA
import Derived.Test.YtpcobefhgkiolaaGreatDoorCZSameW
import Derived.Test.YtpcobefhgkiolaaGreatDoorCTrcM
set_option linter.unusedVariables false
set_option linter.unusedSimpArgs false
set_option maxRecDepth 1000000
namespace Go.Proofs.YtpcobefhgkiolaaGreatDoor
open Go.RowKit Go.Shelf
theorem only_way14 {S:Nat→Prop}:OrdR.Way (Only S):=⟨Only.refl S,fun _ _ _ h k=>h.trans k⟩
instance inst_only14 (S:Nat→Prop) (w:World):Nonempty (OrdR.GW (Only S) w):=⟨⟨w,Only.refl S w⟩⟩
theorem xor_full:∀ a:Fin 256,bits .xor .u8 ((a.1:Nat):Int) 255=((UInt8.ofNat (a.1 ^^^ 255)).toNat:Int):=by decide +kernel
theorem xor255 (t:List UInt8) (i:Nat):Value.int .u8 (bits .xor .u8 (at8 t i) 255)=cellB (UInt8.ofNat ((t.getD i 0).toNat ^^^ 255)):=by
 unfold cellB at8
 rw [xor_full ⟨(t.getD i 0).toNat,(t.getD i 0).toNat_lt⟩]
theorem sumO_len (cs:List ColB) (a b:List PairB):(sumO cs a b).length≤a.length + b.length:=by
 unfold sumO
 split
 ·rename_i h
  unfold sumE at h
  split at h
  ·rename_i h9;exact absurd h h9
  ·split at h
   ·rename_i h9;exact absurd h h9
   ·have h2:=clc_len cs (a ++ b)
    unfold clcO at h2
    rw [if_pos h,List.length_append] at h2
    exact h2
 ·simp
theorem snap_ok {cs:List ColB} {es:List EntB} (h:TrS cs es) (hl:es.length < 4096) (hv:(trE cs es).2.2.1.length≤400):actE cs es (1,[])=0:=by
 have hs:=h.seq
 have hX:actX cs es (1,[])=(1,(trE cs es).2.1,(trE cs es).2.2.1):=if_neg (by decide)
 unfold actE
 rw [if_neg (by omega),if_neg (by simp),hX]
 unfold layE
 rw [(ap_snap h.set h.set (by omega)).1,if_pos rfl,if_neg (by simp)]
 have hp:=entP_small (x:=(1,(trE cs es).2.1,(trE cs es).2.2.1)) h.parts.1 (by dsimp only;omega) h.set (by dsimp only;omega)
 unfold entW
 rw [if_neg (fun hh=>hh (ent_ok h.set (.inr rfl) (by omega)))]
 unfold wrF
 rw [if_neg (by dsimp only;omega),if_neg (by omega)]
theorem own_snap {cs:List ColB} {ps:List PairB} (hC:CS cs) (h0:errS (colsL cs)=0) (hP:PSO ps) (hl:ps.length≤100) :
  actE cs (actS cs [] (0,ps)) (1,[])=0∧(actS cs [] (0,ps)).length≤1∧(actE cs [] (0,ps)≠0→(actS cs [] (0,ps)).length=0):=by
 obtain ⟨t1,t2⟩:=TrS.nil hC h0
 by_cases hE:actE cs [] (0,ps)=0
 ·obtain ⟨u1,u2⟩:=act_next t1 (a:=(0,ps)) hP hE
  have hS:actS cs [] (0,ps)=[] ++ [actX cs [] (0,ps)]:=by unfold actS;rw [if_pos hE]
  have hX:actX cs [] (0,ps)=(0,(trE cs []).2.1 + 1,clcO cs ps):=if_pos rfl
  rw [hS]
  refine ⟨snap_ok u1 (by simp) ?_,by simp,fun h=>absurd hE h⟩
  rw [u2]
  dsimp only
  unfold apV
  split
  ·rw [hX,t2]
   dsimp only
   rw [if_neg (by decide)]
   have h1:=sumO_len cs [] (clcO cs ps)
   have h2:=clc_len cs ps
   simp only [List.length_nil] at h1
   omega
  ·simp
 ·have hS:actS cs [] (0,ps)=[]:=by unfold actS;rw [if_neg hE]
  rw [hS]
  exact ⟨snap_ok t1 (by simp) (by rw [t2];simp),by simp,fun _=>rfl⟩
set_option maxHeartbeats 32000000 in
theorem writerOwn_walk (sv:Value) (cs:List ColB) (lv:Value) (ps:List PairB) (w:World) (hR:RdC w sv cs) (hC:CS cs) (hL:RdP w lv ps) (hP:PSO ps) (hL2:ps.length * 32≤140737488351232) (hL3:∀ p ∈ ps,p.1.length * 24≤140737488351232) (hT:Tabs w) (hF:Frs w) :
  Calls Tryz.prog 9 #[sv,lv] w fun e w'=>e=.returned (.bool true)∧Below w.heap.size w w':=by
 obtain ⟨ac,nc,cc,rfl⟩:=hR.lit12
 obtain ⟨ap,np,cp,rfl⟩:=hL.lit12
 have hlc:=hR.len
 have hlp:=hL.len
 have AL:=h_ (fun wz (hz:Below w.heap.size w wz)=>law14_alive wz (hT.later hz) (hF.later hz))
 have GR:=h_ (fun wz (hz:Below w.heap.size w wz)=>great_one13 (.slice ap np cp) ps wz (hL.later hz l_))
 have HRC:=h_ (fun wz (hz:Below w.heap.size w wz)=>hR.later hz l_)
 have HRP:=h_ (fun wz (hz:Below w.heap.size w wz)=>hL.later hz l_)
 have HRL:=h_ hL
 have HP:=h_ hP
 have HL3:=h_ hL3
 have HT:=h_ (fun wz (hz:Below w.heap.size w wz)=>hT.later hz)
 have HF:=h_ (fun wz (hz:Below w.heap.size w wz)=>hF.later hz)
 have HC:=h_ hC
 obtain ⟨n,hn⟩:∃ n,n=ps.length:=⟨_,rfl⟩
 rw [← hn] at hlp hL2
 have HN:=h_ hn
 obtain ⟨nq,hnq⟩:∃ nq,nq=cs.length:=⟨_,rfl⟩
 rw [← hnq] at hlc
 have HNC:=h_ hnq
 clear hR hC hL hP hL3 hT hF hn hnq
 go_enter Tryz.func9,Tryz.ntmps9
 go_wp2_with fail
 refine (AL.out w (Below.refl _ _)).mono ?_
 rintro e w1 ⟨rfl,hb⟩
 have HB1:=h_ hb
 clear hb
 go_wp2_with fail
 refine (GR.out w1 HB1.out).mono ?_
 rintro e w2 ⟨y,rfl,hy,hf,hb⟩
 have HB2:=h_ ((HB1.out.alloc HB1.out.size (.cells #[.slice ap np cp] 33)).trans (hb.mono (HB1.out.alloc HB1.out.size (.cells #[.slice ap np cp] 33)).size))
 clear hb GR HB1
 have stop:∀ wz,Hid (Below w.heap.size w wz)→Calls Tryz.prog 10 #[] wz fun e w'=>e=.returned (.bool true)∧Hid (Below w.heap.size w w'):=fun wz hz=>(AL.out wz hz.out).mono (by
  rintro e w' ⟨h1,h2⟩
  exact ⟨h1,h_ (hz.out.trans (h2.mono hz.out.size))⟩)
 have STOP:=h_ stop
 clear stop
 rcases hy with rfl | rfl
 ·clear hf
  by_cases h30:30 < nq
  ·have d3:decide ((nq:Int) > 30)=true:=decide_eq_true (by omega)
   clear h30
   go_wp2_with fail
   refine (STOP.out w2 HB2).mono ?_
   rintro e w3 ⟨rfl,HB3⟩
   go_wp2
   go_ret
   exact ⟨rfl,HB3.out⟩
  ·have d3:decide ((nq:Int) > 30)=false:=decide_eq_false (by omega)
   by_cases h100:100 < n
   ·have d4:decide ((n:Int) > 100)=true:=decide_eq_true (by omega)
    clear h30 h100
    go_wp2_with fail
    refine (STOP.out w2 HB2).mono ?_
    rintro e w3 ⟨rfl,HB3⟩
    go_wp2
    go_ret
    exact ⟨rfl,HB3.out⟩
   ·have d4:decide ((n:Int) > 100)=false:=decide_eq_false (by omega)
    have H30:=h_ (show cs.length≤30∧n≤100 from ⟨by rw [← HNC.out];omega,by omega⟩)
    have HRD:=h_ (show RdG colE (w2.alloc (.cells #[] 80)) (.slice ac nc cc) (cs.map colV) from (HRC.out w2 HB2.out).later ((Below.refl w2.heap.size w2).alloc l_ (.cells #[] 80)) l_)
    have H1:=h_ (show ∀ x ∈ cs.map colV,∀ u ∈ x,u.oneCell'=true from fun x hx u hu=>by
     obtain ⟨t,ht,rfl⟩:=List.mem_map.1 hx
     exact colV_one14 t u hu)
    have HO:=h_ (show OwnG colE (w2.alloc (.cells #[] 80)) w2.heap.size (.slice (some ⟨w2.heap.size,0,none⟩) 0 0) [] from ownG_empty colE w2 w2.heap.size l_)
    have HBa:=h_ ((Below.refl w2.heap.size w2).alloc l_ (.cells #[] 80))
    clear h30 h100 AL STOP
    go_wp2_with (with_reducible refine wplC_appendAll14 w2.heap.size _ ?hs HO.out _ ?hx HRD.out H1.out ?hn ?hbase w2.heap.size w2 HBa.out l_ ?_)
    case hs=>rfl
    case hx=>rfl
    case hn=>simp only [List.length_nil,List.length_map,Nat.zero_add];have:=H30.out.1;omega
    case hbase=>simp
    intro v3 w3 ho3 hb3 _
    rw [List.nil_append] at ho3
    have HO3:=h_ (show OwnC w3 w2.heap.size v3 cs from ho3)
    have HB3:=h_ (HB2.out.trans (hb3.mono HB2.out.size))
    have HS3:=h_ hb3.size
    clear ho3 hb3 HRD H1 HO HBa
    have hrd3:=HO3.out.rd (by have:=H30.out.1;omega)
    obtain ⟨a3,n3,c3,rfl⟩:=hrd3.lit12
    have NW:=h_ (writer_New (.slice a3 n3 c3) cs w3 hrd3 HC.out (HT.out w3 HB3.out))
    unfold NwO at NW
    obtain ⟨E,hE⟩:∃ E,E=errS (colsL cs):=⟨_,rfl⟩
    have HE:=h_ hE
    rw [← hE] at NW
    clear hE hrd3
    go_wp2_with fail
    refine NW.out.mono ?_
    rintro e w4 ⟨v4,rfl,hb,hw⟩
    have HB4:=h_ (HB3.out.trans (hb.mono HB3.out.size))
    have HO4:=h_ (HO3.out.later hb l_)
    have HS4:=h_ hb.size
    clear hb NW
    rcases hw with ⟨h0,rfl⟩ | ⟨h0,g,bv,rfl,hw⟩
    ·have q:((E:Int) != 0)=true:=by rw [bne_iff_ne];omega
     clear h0
     go_wp2
     go_ret
     exact ⟨rfl,HB4.out⟩
    ·subst h0
     have HW4:=h_ ((hw (fun j=>j < w3.heap.size) fun j h=>h).fresh.lower HB3.out.size)
     have HOL:=h_ (show ∀ k,(Value.slice a3 n3 c3).ownBlock=some k→w2.heap.size≤k∧k < w3.heap.size from fun k hk=>OwnG.lt HO3.out hk)
     clear hw HO3
     go_wp2
     have hrl:∀ p ∈ ps,p.1.length≤140737488351232:=fun p hp=>by have:=HL3.out p hp;omega
     have HRL1:=h_ hrl
     clear hrl
     go_loopw [8,68] (fun tv i wr=>∃ (k:Nat) (v:Value),v=tv∧k≤n∧i=.int .i64 k∧Hid (OwnQ wr w4.heap.size v (ps.take k))∧Hid (Below w4.heap.size w4 wr)) (fun _ i _=>n - (intOf i).toNat)
     case atStart=>exact ⟨0,_,rfl,by omega,rfl,h_ (OwnQ.nil _ _),h_ (Below.refl _ _)⟩
     case round =>
      obtain ⟨k,qv,rfl,hk,rfl,HQ,HB⟩:=hrel
      by_cases hlt:k < n
      ·have k2:k < ps.length:=by rw [← HN.out];exact hlt
       obtain ⟨b,o,rv,hi,c0,c1,re,hbl⟩:=((HRP.out w4 HB4.out).later HB.out l_).get k2
       have HSN:=h_ (take_succD k2 default)
       have hmem:ps.getD k default ∈ ps:=by simp [List.getD,k2]
       have hl24:=HL3.out _ hmem
       obtain ⟨p,hp⟩:∃ p,p=ps.getD k default:=⟨_,rfl⟩
       rw [← hp] at c1 re HSN hl24
       clear hp k2 hmem
       rcases p with ⟨r,x⟩
       dsimp only at c1 re hl24
       obtain ⟨ar,nr,cr,rfl⟩:=re.lit
       obtain ⟨N1,N2⟩:=new_one12 wr (.cells #[.slice ar nr cr,.int .i64 x] 78)
       obtain ⟨w5,hw5⟩:∃ w5,w5=wr.alloc (.cells #[.slice ar nr cr,.int .i64 x] 78):=⟨_,rfl⟩
       obtain ⟨bx,hbx⟩:∃ bx,bx=wr.heap.size:=⟨_,rfl⟩
       rw [← hw5] at N1 N2
       rw [← hbx] at N1
       have HQ5:=h_ (show OwnQ w5 w4.heap.size qv (ps.take k) from HQ.out.later N2)
       have HB5:=h_ (HB.out.trans (N2.mono HB.out.size))
       have HRE:=h_ (re.later N2 l_)
       have HX:=h_ N1
       have HEB:=h_ (And.intro hw5 hbx)
       have HBX:=h_ (show w4.heap.size≤bx∧bx < w5.heap.size from ⟨by rw [hbx];exact HB.out.size,by
        have:=(Array.getElem?_eq_some_iff.1 N1).1;exact this⟩)
       have HL24:=h_ hl24
       clear N1 N2 hw5 hbx re hl24
       go_wp2_with fail
       rw [← HEB.out.1,← HEB.out.2]
       have hne:¬ (qv.ownBlock=some bx∨w5.heap.size≤bx):=by
        have h1:=HBX.out
        rintro (h2 | h2)
        ·have:=(HQ.out.lt h2).2;rw [← HEB.out.2] at this;omega
        ·omega
       have hs0:=fun z:OrdR.GW (Only fun j=>qv.ownBlock=some j∨w5.heap.size≤j) w5.drew=>show z.val.cell? ⟨bx,0,none⟩=some (.slice ar nr cr) from cell_of_row _ _ 0 _ _ _ (z.grew.keep (show w5.drew.heap[bx]?=_ from HX.out) hne)
       have hs1:=fun z:OrdR.GW (Only fun j=>qv.ownBlock=some j∨w5.heap.size≤j) w5.drew=>show z.val.cell? ⟨bx,1,none⟩=some (.int .i64 x) from cell_of_row _ _ 1 _ _ _ (z.grew.keep (show w5.drew.heap[bx]?=_ from HX.out) hne)
       obtain ⟨ts,hts,hG,hrw⟩:=HQ5.out.later (Below.refl w5.heap.size w5).drew
       have hsz5:w4.heap.size≤w5.drew.heap.size:=HB5.out.size
       have HTS:=h_ hts
       clear hts hne
       refine OrdR.wp_region_ord (R:=Only fun j=>qv.ownBlock=some j∨w5.heap.size≤j) only_way14 [(0,false),(2,false),(3,false),(5,false),(6,false),(1,true),(4,true),(7,true),(8,true),(9,true),(10,false)] (by kernel_rfl) rfl (by kernel_rfl) (by kernel_rfl) (fun _ _ _ d _ h=>by cases d <;> exact h) ?_
       refine OrdR.ord_still rfl rfl (by kernel_rfl) (fun K hK=>?_)
       go_big_quiet_op
       refine hK _ ?_;clear hK K
       refine OrdR.ord_still rfl rfl (by kernel_rfl) (fun K hK=>?_)
       go_big_quiet_op
       refine hK _ ?_;clear hK K
       refine OrdR.ord_still rfl rfl (by kernel_rfl) (fun K hK=>?_)
       go_big_quiet_op
       refine hK _ ?_;clear hK K
       refine OrdR.ord_still rfl rfl (by kernel_rfl) (fun K hK=>?_)
       go_big_quiet_op
       refine hK _ ?_;clear hK K
       refine OrdR.ord_still rfl rfl (by kernel_rfl) (fun K hK=>?_)
       go_big_quiet_op
       refine hK _ ?_;clear hK K
       refine OrdR.ord_loud rfl (by kernel_rfl) (fun K hK=>?_)
       go_big_op
       refine hK _ _ ((Only.refl _ _).alloc _) ?_
       clear hK K
       refine OrdR.ord_loud rfl (by kernel_rfl) (fun K hK=>?_)
       refine wpG_appendAll cellOk w4.heap.size (.slice (some ⟨w5.drew.heap.size,0,none⟩) 0 0) rfl (ownE_empty w5.drew w4.heap.size hsz5) (.slice ar nr cr) rfl (HRE.out.later ((Below.refl w5.heap.size w5).drew.alloc l_ (.cells #[] 83)) l_) (cellVs_oneP r) (by rw [List.length_map,List.length_map];simp [cellE];have:=HL24.out;omega) (by rw [List.length_map,List.length_map];simp;have:=HL24.out;omega) (by simp;have h5:w4.heap.size≤w5.heap.size:=hsz5;omega) w4.heap.size w4 (HB5.out.drew.alloc hsz5 _) l_ ?_
       intro v6 w6 ho6 hb6 hg6 _
       have hsz6:w5.heap.size + 1≤w6.heap.size:=by have:=hg6.size;simpa using this
       have HR6:=h_ (show OwnE w6 w4.heap.size v6 r from ho6)
       obtain ⟨a6,n6,c6,rfl⟩:=(HR6.out.rd (by have:=HL24.out;omega)).lit
       have HG6:=h_ ((hG.alloc (.cells #[] 83)).grown hg6 fun k hk e=>by
        have e2:k=w5.drew.heap.size:=Option.some.inj e
        have:=(hG.lt hk).2;omega)
       have HRW6:=h_ (show ∀ t ∈ ts,OwnE w6 w4.heap.size t.1 t.2.1∧t.2.1.length≤140737488351232 from fun t ht=>⟨((hrw t ht).1.alloc (.cells #[] 83)).grown hg6 fun k hk e=>by
        have e2:k=w5.drew.heap.size:=Option.some.inj e
        have:=((hrw t ht).1.lt hk).2;omega,(hrw t ht).2⟩)
       have HB6:=h_ hb6
       refine hK _ _ ((Only.refl _ _).grown hg6 (.inr l_)) ?_
       clear ho6 hb6 hg6 hG hrw HRE HQ5 hs0 hs1
       go_simp
       clear hK K
       refine OrdR.ord_loud rfl (by kernel_rfl) (fun K hK=>?_)
       go_big_op
       refine hK _ _ (Only.refl _ _) ?_
       clear hK K
       refine OrdR.ord_loud rfl (by kernel_rfl) (fun K hK=>?_)
       go_big_op
       refine hK _ _ ((Only.refl _ _).alloc _) ?_
       clear hK K
       refine OrdR.ord_loud rfl (by kernel_rfl) (fun K hK=>?_)
       refine wpG_one pairOk w4.heap.size qv (triV ((.slice a6 n6 c6:Value),(r,x))) ⟨w6.heap.size,0,none⟩ rfl (HG6.out.alloc (.cells #[.slice a6 n6 c6,.int .i64 x] 78)) rfl rfl (triV_one (HR6.out.rd (by have:=HL24.out;omega))) (triV_cells w6 (.slice a6 n6 c6) (r,x)) (by have h1:=congrArg List.length HTS.out;rw [List.length_take,List.length_map] at h1;rw [List.length_map];simp [pairE];omega) (by have h1:=congrArg List.length HTS.out;rw [List.length_take,List.length_map] at h1;rw [List.length_map];omega) (by simp;have:=HB6.out.size;omega) w4.heap.size w4 (HB6.out.alloc HB6.out.size (.cells #[.slice a6 n6 c6,.int .i64 x] 78)) l_ ?_
       intro v7 w7 ho7 hb7 hg7 _
       have HQ7:=h_ (show OwnQ w7 w4.heap.size v7 (ps.take (k + 1)) from by
        rw [HSN.out,HTS.out]
        exact ownQ_snoc (HG6.out.alloc _) (fun t ht=>⟨(HRW6.out t ht).1.alloc _,(HRW6.out t ht).2⟩) (HR6.out.alloc (.cells #[.slice a6 n6 c6,.int .i64 x] 78)) (by have:=HL24.out;dsimp only;omega) hg7 ho7)
       have HB7:=h_ hb7
       refine hK _ _ ((Only.by14 hg7).mono fun j hj=>.inl hj) ?_
       clear ho7 hb7 hg7 HG6 HRW6 HR6 HB6
       go_simp
       clear hK K
       refine OrdR.ord_still rfl rfl (by kernel_rfl) (fun K hK=>?_)
       go_big_quiet_op
       refine hK _ ?_;clear hK K
       refine OrdR.ord_nil ?_
       go_wp2
       go_roundw
       case rel=>exact ⟨k + 1,_,rfl,by omega,by go_num,HQ7,HB7⟩
       case measure=>simp [intOf];omega
      ·obtain rfl:k=n:=by omega
       obtain ⟨w5,rfl⟩:∃ w5,w5=wr:=⟨_,rfl⟩
       have hq5:OwnQ w5 w4.heap.size qv ps:=by
        have:=HQ.out
        rwa [List.take_of_length_le (by rw [← HN.out];exact l_)] at this
       have hrd5:=hq5.rd (by rw [← HN.out];omega)
       have HPS:=h_ (show Wps (fun j=>w4.heap.size≤j∧j < w5.heap.size) w5 qv k from by rw [HN.out];exact hq5.wps (by rw [← HN.out];omega))
       have HB5:=h_ (HB4.out.trans (HB.out.mono HB4.out.size))
       have HS5:=h_ HB.out.size
       have HW5:=h_ (((HW4.out.later HB.out).less (Q':=fun j=>(j < w3.heap.size∨w4.heap.size≤j)∧j < w5.heap.size) fun j hj=>hj.1))
       have HO5:=h_ (HO4.out.later HB.out l_)
       obtain ⟨aq,mq,cq,rfl⟩:=hrd5.lit12
       have AC:=h_ (writer_Append w.heap.size g bv (.slice aq mq cq) cs [] ps _ w5 HW5.out (fun j h=>h.2) hrd5 HP.out (by rw [← HN.out];have:=H30.out.2;omega) (HT.out w5 HB5.out) (HF.out w5 HB5.out))
       clear hq5 hrd5 HQ HB HW4 HO4 hlt
       go_wp2_with fail
       refine AC.out.mono ?_
       rintro e w6 hst
       obtain ⟨ax,nx,cx,bn,rfl,hx,hw,hO,hp⟩:=hst.slice14
       have HB6:=h_ (HB5.out.trans (HW5.out.below hO))
       have HS6:=h_ hO.size
       have HF6:=h_ hw.fresh
       have HO6:=h_ (show OwnC w6 w2.heap.size (.slice a3 n3 c3) cs from OwnG.stay HO5.out hO fun q hq hs=>by
        have h1:=HOL.out q hq
        have h2:=HW5.out.free q ⟨.inl h1.2,by have:=HS4.out;have:=HS5.out;omega⟩
        exact hs.elim h2.1 h2.2)
       have HPS6:=h_ (HPS.out.only hO fun j hj hs=>by
        have h2:=HW5.out.free j ⟨.inr hj.1,hj.2⟩
        exact hs.elim h2.1 h2.2)
       have HX6:=h_ hx
       have HB5s:=HB5.out.size
       obtain ⟨es2,hes2⟩:∃ es2,es2=actS cs [] (0,ps):=⟨_,rfl⟩
       obtain ⟨B,hBd⟩:∃ B,B=actB cs [] (0,ps):=⟨_,rfl⟩
       obtain ⟨X,hXd⟩:∃ X,X=actE cs [] (0,ps):=⟨_,rfl⟩
       have HES:=h_ (And.intro hes2 (And.intro hBd hXd))
       rw [← hes2] at HF6
       rw [← hBd] at HX6
       rw [← hXd] at hst ⊢
       have hBs:B.length≤1048591:=by rw [hBd];exact act_small cs [] (0,ps)
       have HBS:=h_ hBs
       clear AC hst hx hw hO hp hes2 hBd hXd hBs HPS HO5 HW5 HB5
       have HSM:=h_ (show (trE cs es2).1.length≤140737488351232 from by have:=HF6.out.trs.small;omega)
       have HVL:=h_ (show (trE cs es2).2.2.1.length≤140737488351232 from by have:=HF6.out.trs.set.few;omega)
       have BY:=h_ (fun wz (hz:Below w6.heap.size w6 wz)=>writer_Bytes (HF6.out.later hz))
       have VW:=h_ (fun wz (hz:Below w6.heap.size w6 wz)=>writer_View (HF6.out.later hz))
       obtain ⟨L,hL⟩:∃ L,L=(trE cs es2).1:=⟨_,rfl⟩
       obtain ⟨vw,hvw⟩:∃ vw,vw=(trE cs es2).2.2.1:=⟨_,rfl⟩
       have HLd:=h_ (And.intro hL hvw)
       rw [← hL] at BY HSM
       rw [← hvw] at VW HVL
       have hbel:Below w6.heap.size w6 w6.drew:=(Below.refl _ _).drew
       clear hL hvw
       go_wp2_with fail
       refine Ord.wp_region_ord [(0,false),(3,false),(1,true),(2,false),(4,true),(5,false),(6,false)] (by kernel_rfl) rfl (by kernel_rfl) (by kernel_rfl) (fun _ _ _ d _ h=>by cases d <;> exact h) ?_
       refine Ord.ord_still rfl rfl (by kernel_rfl) (fun K hK=>?_)
       go_big_quiet_op
       refine hK _ ?_;clear hK K
       refine Ord.ord_still rfl rfl (by kernel_rfl) (fun K hK=>?_)
       go_big_quiet_op
       refine hK _ ?_;clear hK K
       refine Ord.ord_loud rfl (by kernel_rfl) (fun K hK=>?_)
       go_big_op
       refine (BY.out _ hbel).mono ?_
       rintro e wa ⟨va,rfl,ho,hb⟩
       have hs1:=str_later ho HSM.out
       clear ho
       replace hbel:=hbel.trans (hb.mono hbel.size)
       refine hK _ _ hb ?_
       clear hb
       clear hK K
       refine Ord.ord_still rfl rfl (by kernel_rfl) (fun K hK=>?_)
       go_big_quiet_op
       refine hK _ ?_;clear hK K
       refine Ord.ord_loud rfl (by kernel_rfl) (fun K hK=>?_)
       go_big_op
       refine (VW.out _ hbel).mono ?_
       rintro e w8 ⟨vb,rfl,ho,hb⟩
       have HNV:=h_ (ho.new HVL.out)
       have hsa:w6.heap.size≤wa.heap.size:=hbel.size
       have hs8:wa.heap.size≤w8.heap.size:=hb.size
       have HSA:=h_ (And.intro hsa hs8)
       replace hbel:=hbel.trans (hb.mono hbel.size)
       have HBEL:=h_ hbel
       refine hK _ _ hb ?_
       clear hb ho hsa hs8 hs1
       clear hK K
       refine Ord.ord_still rfl rfl (by kernel_rfl) (fun K hK=>?_)
       go_big_quiet_op
       refine hK _ ?_;clear hK K
       refine Ord.ord_still rfl rfl (by kernel_rfl) (fun K hK=>?_)
       go_big_quiet_op
       refine hK _ ?_;clear hK K
       refine Ord.ord_nil ?_
       obtain ⟨T,hT⟩:∃ T:Nat→Prop,T=fun j=>w.heap.size≤j∧(j < wa.heap.size∨w8.heap.size≤j)∧((((j < w3.heap.size∨w4.heap.size≤j)∧j < w5.heap.size)∨(Value.slice ax nx cx).ownBlock=some j)∨w6.heap.size≤j):=⟨_,rfl⟩
       have HT1:=h_ (show ∀ j,T j→w.heap.size≤j from fun j hj=>by rw [hT] at hj;exact hj.1)
       have HT3:=h_ (show ∀ wz,Only T w8 wz→RdP wz vb vw from fun wz hz=>(HNV.out.only (S:=fun j=>T j∧j < w8.heap.size) (hz.only14 fun j h1 h2=>⟨h2,h1⟩) fun q hq hs=>by
        have h1:=hs.1
        rw [hT] at h1
        have h2:=h1.2.1
        have h3:=hs.2
        omega).rd)
       have HW8:=h_ (show Wr w8 w.heap.size g bn cs es2 T from (HF6.out.later HBEL.out).less fun j hj=>by rw [hT] at hj;exact hj.2.2)
       have HB8:=h_ (HB6.out.trans (HBEL.out.mono HB6.out.size))
       have HX8:=h_ (HX6.out.later HBEL.out l_)
       have HTX:=h_ (show ∀ q,(Value.slice ax nx cx).ownBlock=some q→T q from fun q hq=>by
        have h1:=HX6.out.lt14 hq
        have h2:=HB5s
        rw [hT]
        exact ⟨by omega,.inl (by have:=HSA.out.1;omega),.inl (.inr hq)⟩)
       have HTN:=h_ (show ∀ q,w8.heap.size≤q→T q from fun q hq=>by
        rw [hT]
        exact ⟨by have:=HB8.out.size;omega,.inr hq,.inr (by have:=HSA.out;omega)⟩)
       have HSL:=h_ (show Wsl colE T w8 (.slice a3 n3 c3) nq from by
        have h1:=(OwnG.wsl colOk (show OwnG colE w8 w2.heap.size (.slice a3 n3 c3) (cs.map colV) from HO6.out.later HBEL.out l_) (by rw [List.length_map];have:=H30.out.1;omega)).more (Q:=T) fun j hj=>by
         have h1:=HOL.out j hj
         rw [hT]
         exact ⟨by have:=HB2.out.size;omega,.inl (by have:=HS4.out;have:=HS5.out;have:=HS6.out;have:=HSA.out;omega),.inl (.inl ⟨.inl h1.2,by have:=HS4.out;have:=HS5.out;omega⟩)⟩
        rw [List.length_map] at h1
        rw [HNC.out];exact h1)
       have HPS8:=h_ ((HPS6.out.later HBEL.out).more (Q:=T) fun j hj=>by
        rw [hT]
        exact ⟨by have:=HB4.out.size;omega,.inl (by have:=HS6.out;have:=HSA.out;omega),.inl (.inl ⟨.inr hj.1,hj.2⟩)⟩)
       clear hT HNV HF6 HBEL HX6 HO6 HPS6 HOL BY VW hbel HB6 HS3 HS4 HS5 HS6 HB2 HB3 HB4 HSA
       obtain ⟨hlo,_⟩:=id HSL.out
       have hnq30:nq≤30:=by rw [HNC.out];exact H30.out.1
       have hlo:∀ u,(Builtin.len_ #[22] 3 #[.slice a3 n3 c3]).run Tryz.prog u=.ok (.int .i64 (nq:Int)) u:=hlo
       go_wp2
       go_loopw [96] (fun i wr=>∃ j:Nat,j≤nq∧i=.int .i64 j∧Hid (Trn T 80 w8 wr)) (fun i _=>nq - (intOf i).toNat)
       case atStart=>exact ⟨0,by omega,rfl,h_ (Trn.refl _ _ _)⟩
       case round =>
        obtain ⟨j,hj,rfl,HTr⟩:=hrel
        by_cases hlt:j < nq
        ·obtain ⟨gc,oc,x0,x1,hidx,hPg,c0,c1,f0,f1,htr⟩:=(HSL.out.shp HTr.out.shp).get hlt rfl
         have hidx:∀ u,(Instr.indexAt 22 (.slice a3 n3 c3) (.int .i64 (j:Int))).run Tryz.prog u=.ok (.pointer (some ⟨gc,oc,none⟩)) u:=hidx
         have HTR:=h_ htr
         clear htr hPg
         go_wp2
         go_roundw
         case rel=>exact ⟨j + 1,by omega,by go_num,h_ (HTr.out.trans (HTR.out _ _) fun _ _ h=>h)⟩
         case measure=>simp [intOf];omega
        ·obtain rfl:j=nq:=by omega
         obtain ⟨w9,rfl⟩:∃ w9,w9=wr:=⟨_,rfl⟩
         have HPS9:=h_ (HPS8.out.trn HTr.out (by decide))
         have HO9:=h_ (HTr.out.only)
         have HX9:=h_ (HX8.out.trn HTr.out (by decide))
         obtain ⟨hlq,_⟩:=id HPS9.out
         clear hlo hlt HTr HX8 HPS8
         go_wp2
         go_loopw [106] (fun i wr=>∃ j:Nat,j≤k∧i=.int .i64 j∧Hid (Trn T 83 w9 wr)) (fun i _=>k - (intOf i).toNat)
         case atStart=>exact ⟨0,by omega,rfl,h_ (Trn.refl _ _ _)⟩
         case round =>
          obtain ⟨i,hi,rfl,HTr⟩:=hrel
          by_cases hlt:i < k
          ·obtain ⟨b,o,ar,nr,cr,y,hidx,hbl,c0,c1,hws,hnr⟩:=(HPS9.out.trn HTr.out (by decide)).get hlt
           have hlr:∀ u,(Builtin.len_ #[76] 3 #[.slice ar nr cr]).run Tryz.prog u=.ok (.int .i64 (nr:Int)) u:=hws.1
           obtain ⟨N1,N2⟩:=new_one12 wr (.cells #[.slice ar nr cr,.int .i64 y] 78)
           have HX:=h_ N1
           have HWS:=h_ (hws.shp (Shp.later N2))
           have HTr2:=h_ (HTr.out.trans (Trn.later (P:=T) N2) fun _ _ h=>h)
           clear N1 N2 hws
           go_wp2
           obtain ⟨wb,hwb⟩:∃ wb,wb=wr.alloc (.cells #[.slice ar nr cr,.int .i64 y] 78):=⟨_,rfl⟩
           obtain ⟨bx,hbx⟩:∃ bx,bx=wr.heap.size:=⟨_,rfl⟩
           rw [← hwb,← hbx] at HX
           rw [← hwb] at HWS HTr2
           try rw [← hwb]
           try rw [← hbx]
           clear hwb hbx c0 c1 hidx hbl
           go_loopw [113] (fun i wr=>∃ j:Nat,j≤nr∧i=.int .i64 j∧Hid (Trn T 83 wb wr)) (fun i _=>nr - (intOf i).toNat)
           case atStart=>exact ⟨0,by omega,rfl,h_ (Trn.refl _ _ _)⟩
           case round =>
            obtain ⟨j,hj,rfl,HTi⟩:=hrel
            have hxx:=HTi.out.typed _ _ HX.out (fun cur z e=>by injection e with _ e _;exact absurd e (by decide))
            by_cases hlj:j < nr
            ·obtain ⟨gc,oc,x0,x1,hidx,hPg,c0,c1,f0,f1,htr⟩:=(HWS.out.shp HTi.out.shp).get hlj rfl
             have hidx:∀ u,(Instr.indexAt 76 (.slice ar nr cr) (.int .i64 (j:Int))).run Tryz.prog u=.ok (.pointer (some ⟨gc,oc,none⟩)) u:=hidx
             have e0:=cell_of_row _ _ 0 _ _ _ hxx
             simp at e0
             have HTR:=h_ htr
             clear htr hPg hxx
             go_wp2
             go_roundw
             case rel=>exact ⟨j + 1,by omega,by go_num,h_ (HTi.out.trans (HTR.out _ _) fun _ _ h=>h)⟩
             case measure=>simp [intOf];omega
            ·obtain rfl:j=nr:=by omega
             have HTn:=h_ (HTr2.out.trans HTi.out fun _ _ h=>h)
             clear hxx hlj HTi HWS HX HTr2 HTr
             go_wp2
             go_roundw
             case rel=>exact ⟨i + 1,by omega,by go_num,HTn⟩
             case measure=>simp [intOf];omega
          ·obtain rfl:i=k:=by omega
           obtain ⟨wc,rfl⟩:∃ wc,wc=wr:=⟨_,rfl⟩
           have HO10:=h_ (HO9.out.trans HTr.out.only)
           have HX10:=h_ (HX9.out.trn HTr.out (by decide))
           have hlb:=(HX10.out.rd (by have:=HBS.out;omega)).len
           have hBs:=HBS.out
           obtain ⟨m,hm⟩:∃ m,m=B.length:=⟨_,rfl⟩
           rw [← hm] at hlb hBs
           have HMB:=h_ hm
           clear hm HTr HX9 HO9 hlt HPS9 hlq
           go_wp2
           go_loopw [125] (fun i wr=>∃ (j:Nat) (t:List UInt8),j≤m∧i=.int .i64 j∧t.length=m∧Hid (Own wr w5.heap.size (.slice ax nx cx) t)∧Hid (Trn T 5 wc wr)) (fun i _=>m - (intOf i).toNat)
           case atStart=>exact ⟨0,B,by omega,rfl,HMB.out.symm,HX10,h_ (Trn.refl _ _ _)⟩
           case round =>
            obtain ⟨j,t,hj,rfl,htl,HOb,HTr⟩:=hrel
            by_cases hlt:j < m
            ·have hq:j < t.length:=by omega
             obtain ⟨hrg,hfr,hBg⟩:=HOb.out.set hq (UInt8.ofNat ((t.getD j 0).toNat ^^^ 255))
             have htr:=HOb.out.trn_set hq HTX.out (UInt8.ofNat ((t.getD j 0).toNat ^^^ 255))
             have hrt:=HOb.out.rd (by omega)
             have hidx:=hrt.idx j hq
             have hcel:=hrt.cells j hq
             rw [← xor255] at hrg htr
             have HRG:=h_ hrg
             have HTR:=h_ htr
             clear hrg htr hrt hBg
             go_wp2
             go_roundw
             case rel=>exact ⟨j + 1,_,by omega,by go_num,by rw [List.length_set];exact htl,HRG,h_ (HTr.out.trans HTR.out fun _ _ h=>h)⟩
             case measure=>simp [intOf];omega
            ·obtain rfl:j=m:=by omega
             obtain ⟨w11,rfl⟩:∃ w11,w11=wr:=⟨_,rfl⟩
             have HO11:=h_ (HO10.out.trans HTr.out.only)
             have HW11:=h_ (HW8.out.only HO11.out fun _ _ h=>h)
             have HB11:=h_ (HB8.out.trans (HO11.out.toBelow (fun j hj=>HT1.out j hj) HB8.out.size))
             have HS11:=h_ (HO11.out.size)
             have BY:=h_ (writer_Bytes HW11.out)
             rw [← HLd.out.1] at BY
             clear HOb HTr HO10 hlt hlb htl HX10
             go_wp2_with fail
             refine BY.out.mono ?_
             rintro e w12 ⟨cv,rfl,ho,hb⟩
             obtain ⟨a12,n12,c12,rfl⟩:=ho.lit13
             have hlc:=(ho.rd HSM.out).len
             have hLs:=HSM.out
             obtain ⟨ml,hml⟩:∃ ml,ml=L.length:=⟨_,rfl⟩
             rw [← hml] at hlc hLs
             have HML:=h_ hml
             have HB12:=h_ hb
             have HO12:=h_ (HO11.out.below hb l_)
             have HC12:=h_ ho
             have HTC:=h_ (show ∀ q,(Value.slice a12 n12 c12).ownBlock=some q→T q from fun q hq=>HTN.out q (by have:=(ho.lt14 hq).1;have:=HS11.out;omega))
             clear hml hb ho BY HO11 HW11 HB11
             go_wp2
             go_loopw [139] (fun i wr=>∃ (j:Nat) (t:List UInt8),j≤ml∧i=.int .i64 j∧t.length=ml∧Hid (Own wr w11.heap.size (.slice a12 n12 c12) t)∧Hid (Trn T 5 w12 wr)) (fun i _=>ml - (intOf i).toNat)
             case atStart=>exact ⟨0,L,by omega,rfl,HML.out.symm,HC12,h_ (Trn.refl _ _ _)⟩
             case round =>
              obtain ⟨j,t,hj,rfl,htl,HOb,HTr⟩:=hrel
              by_cases hlt:j < ml
              ·have hq:j < t.length:=by omega
               obtain ⟨hrg,hfr,hBg⟩:=HOb.out.set hq 0
               have htr:=HOb.out.trn_set hq HTC.out 0
               have hrt:=HOb.out.rd (by omega)
               have hidx:=hrt.idx j hq
               have hcel:=hrt.cells j hq
               rw [show cellB 0=.int .u8 0 from rfl] at hrg htr
               have HRG:=h_ hrg
               have HTR:=h_ htr
               clear hrg htr hrt hBg
               go_wp2
               go_roundw
               case rel=>exact ⟨j + 1,_,by omega,by go_num,by rw [List.length_set];exact htl,HRG,h_ (HTr.out.trans HTR.out fun _ _ h=>h)⟩
               case measure=>simp [intOf];omega
              ·obtain rfl:j=ml:=by omega
               obtain ⟨w13,rfl⟩:∃ w13,w13=wr:=⟨_,rfl⟩
               have HO13:=h_ (HO12.out.trans HTr.out.only)
               have HW13:=h_ (HW8.out.only HO13.out fun _ _ h=>h)
               have HS13:=h_ (HO13.out.size)
               have VW:=h_ (writer_View HW13.out)
               rw [← HLd.out.2] at VW
               clear HOb HTr HO12 hlt hlc htl HC12 HTC HB12
               go_wp2_with fail
               refine VW.out.mono ?_
               rintro e w14 ⟨vc,rfl,ho,hb⟩
               have HPS14:=h_ (((ho.ownQ HVL.out).wps HVL.out).more (Q:=T) fun j hj=>HTN.out j (by have:=hj.1;have:=HS13.out;omega))
               have HO14:=h_ (HO13.out.below hb l_)
               obtain ⟨av,mv,cv9,rfl⟩:=(ho.1.rd HVL.out).lit12
               have hvs:=HVL.out
               obtain ⟨nv,hnv⟩:∃ nv,nv=vw.length:=⟨_,rfl⟩
               rw [← hnv] at HPS14 hvs
               have HNV:=h_ hnv
               clear ho hb VW hnv HO13 HW13 HS13
               obtain ⟨hlq,_⟩:=id HPS14.out
               go_wp2
               go_loopw [150] (fun i wr=>∃ j:Nat,j≤nv∧i=.int .i64 j∧Hid (Trn T 83 w14 wr)) (fun i _=>nv - (intOf i).toNat)
               case atStart=>exact ⟨0,by omega,rfl,h_ (Trn.refl _ _ _)⟩
               case round =>
                obtain ⟨i,hi,rfl,HTr⟩:=hrel
                by_cases hlt:i < nv
                ·obtain ⟨b,o,ar,nr,cr,y,hidx,hbl,c0,c1,hws,hnr⟩:=(HPS14.out.trn HTr.out (by decide)).get hlt
                 have hlr:∀ u,(Builtin.len_ #[76] 3 #[.slice ar nr cr]).run Tryz.prog u=.ok (.int .i64 (nr:Int)) u:=hws.1
                 obtain ⟨N1,N2⟩:=new_one12 wr (.cells #[.slice ar nr cr,.int .i64 y] 78)
                 have HX:=h_ N1
                 have HWS:=h_ (hws.shp (Shp.later N2))
                 have HTr2:=h_ (HTr.out.trans (Trn.later (P:=T) N2) fun _ _ h=>h)
                 clear N1 N2 hws
                 go_wp2
                 obtain ⟨wb,hwb⟩:∃ wb,wb=wr.alloc (.cells #[.slice ar nr cr,.int .i64 y] 78):=⟨_,rfl⟩
                 obtain ⟨bx,hbx⟩:∃ bx,bx=wr.heap.size:=⟨_,rfl⟩
                 rw [← hwb,← hbx] at HX
                 rw [← hwb] at HWS HTr2
                 try rw [← hwb]
                 try rw [← hbx]
                 clear hwb hbx c0 c1 hidx hbl
                 go_loopw [157] (fun i wr=>∃ j:Nat,j≤nr∧i=.int .i64 j∧Hid (Trn T 83 wb wr)) (fun i _=>nr - (intOf i).toNat)
                 case atStart=>exact ⟨0,by omega,rfl,h_ (Trn.refl _ _ _)⟩
                 case round =>
                  obtain ⟨j,hj,rfl,HTi⟩:=hrel
                  have hxx:=HTi.out.typed _ _ HX.out (fun cur z e=>by injection e with _ e _;exact absurd e (by decide))
                  by_cases hlj:j < nr
                  ·obtain ⟨gc,oc,x0,x1,hidx,hPg,c0,c1,f0,f1,htr⟩:=(HWS.out.shp HTi.out.shp).get hlj rfl
                   have hidx:∀ u,(Instr.indexAt 76 (.slice ar nr cr) (.int .i64 (j:Int))).run Tryz.prog u=.ok (.pointer (some ⟨gc,oc,none⟩)) u:=hidx
                   have e0:=cell_of_row _ _ 0 _ _ _ hxx
                   simp at e0
                   have HTR:=h_ htr
                   clear htr hPg hxx
                   go_wp2
                   go_roundw
                   case rel=>exact ⟨j + 1,by omega,by go_num,h_ (HTi.out.trans (HTR.out _ _) fun _ _ h=>h)⟩
                   case measure=>simp [intOf];omega
                  ·obtain rfl:j=nr:=by omega
                   have HTn:=h_ (HTr2.out.trans HTi.out fun _ _ h=>h)
                   clear hxx hlj HTi HWS HX HTr2 HTr
                   go_wp2
                   go_roundw
                   case rel=>exact ⟨i + 1,by omega,by go_num,HTn⟩
                   case measure=>simp [intOf];omega
                ·obtain rfl:i=nv:=by omega
                 obtain ⟨w15,rfl⟩:∃ w15,w15=wr:=⟨_,rfl⟩
                 have HO15:=h_ (HO14.out.trans HTr.out.only)
                 have HW15:=h_ (HW8.out.only HO15.out fun _ _ h=>h)
                 have HB15:=h_ (HB8.out.trans (HO15.out.toBelow (fun j hj=>HT1.out j hj) HB8.out.size))
                 have HV15:=h_ (HT3.out _ HO15.out)
                 have HR15:=h_ (HRC.out _ HB15.out)
                 have BY:=h_ (fun wz (hz:Below w15.heap.size w15 wz)=>writer_Bytes (HW15.out.later hz))
                 have VW:=h_ (fun wz (hz:Below w15.heap.size w15 wz)=>writer_View (HW15.out.later hz))
                 have SC:=h_ (fun wz (hz:Below w15.heap.size w15 wz)=>writer_Schema (HW15.out.later hz))
                 rw [← HLd.out.1] at BY
                 rw [← HLd.out.2] at VW
                 clear HTr HPS14 HO14 hlt hlq HO15 HT3 HTX HTN HSL HW8
                 go_wp2_with fail
                 refine (BY.out w15 (Below.refl _ _)).mono ?_
                 rintro e wa ⟨va,rfl,ho,hb⟩
                 have hs1:=(ho.rd HSM.out).str
                 have hbel:=hb
                 clear ho hb
                 go_wp2_with fail
                 refine (VW.out wa hbel).mono ?_
                 rintro e wb ⟨vd,rfl,ho,hb⟩
                 have hrd1:=ho.1.rd HVL.out
                 replace hbel:=hbel.trans (hb.mono hbel.size)
                 clear hb ho hs1
                 go_wp2_with fail
                 refine (zset_Same vd vb vw vw wb hrd1 ((HV15.out).later hbel l_)).mono ?_
                 rintro e wd ⟨rfl,hb⟩
                 rw [decide_eq_true (rfl:vw=vw)]
                 replace hbel:=hbel.trans (hb.mono hbel.size)
                 clear hb hrd1
                 go_wp2_with fail
                 refine (SC.out wd hbel).mono ?_
                 rintro e wf ⟨ve,rfl,ho,hb⟩
                 have hrd2:=ho.rd (by have:=H30.out.1;omega)
                 replace hbel:=hbel.trans (hb.mono hbel.size)
                 clear hb ho
                 go_wp2_with fail
                 refine (ref_Same ve (.slice ac nc cc) cs cs wf hrd2 ((HR15.out).later hbel l_)).mono ?_
                 rintro e wh ⟨rfl,hb⟩
                 rw [decide_eq_true (rfl:cs=cs)]
                 replace hbel:=hbel.trans (hb.mono hbel.size)
                 clear hb hrd2
                 have HWh:=h_ ((HW15.out.later hbel).less (Q':=fun _=>False) fun j h=>h.elim)
                 have HBh:=h_ (HB15.out.trans (hbel.mono HB15.out.size))
                 obtain ⟨s1,s2,s3⟩:=own_snap HC.out HE.out.symm HP.out (by rw [← HN.out];exact H30.out.2)
                 rw [← HES.out.1] at s1 s2 s3
                 rw [← HES.out.2.2] at s3
                 have hst0:=act_many (cs:=cs) (es:=es2) (a:=(1,[])) s1
                 have SN:=h_ (writer_Snap w.heap.size g bn cs es2 [] (fun _=>False) wh HWh.out (fun j h=>h.elim) (fun p hp=>absurd hp (by simp)) 1 (by decide) (HT.out wh HBh.out) (HF.out wh HBh.out))
                 rw [s1] at SN
                 obtain ⟨es3,hes3⟩:∃ es3,es3=actS cs es2 (1,[]):=⟨_,rfl⟩
                 rw [← hes3] at SN hst0
                 have HS3:=h_ (And.intro s2 (And.intro s3 hst0))
                 clear hbel BY VW SC HW15 HV15 HR15 hes3 s1 s2 s3 hst0 HRP HRC HP HC
                 go_wp2_with fail
                 refine SN.out.mono ?_
                 rintro e w16 hst
                 obtain ⟨a16,n16,c16,b16,rfl,hx,hw,hO,hp⟩:=hst.slice14
                 have HB16:=h_ (HBh.out.trans (HWh.out.below hO))
                 have HW16:=h_ (hw.less (Q':=fun _=>False) fun j h=>h.elim)
                 have BY2:=h_ (writer_Bytes HW16.out)
                 clear SN hst hx hw hO hp HWh HBh
                 go_wp2_with fail
                 refine BY2.out.mono ?_
                 rintro e w17 ⟨v17,rfl,ho,hb⟩
                 have hbs:=HW16.out.trs.back
                 have DC:=h_ (trace_Decode v17 (trE cs es3).1 w17 (ho.rd (by have:=HW16.out.trs.small;omega)) (HT.out w17 (HB16.out.trans (hb.mono HB16.out.size))) (HF.out w17 (HB16.out.trans (hb.mono HB16.out.size))))
                 unfold DcO13 at DC
                 rw [hbs.1,hbs.2.1,hbs.2.2.1,hbs.2.2.2] at DC
                 have HW17:=h_ (HW16.out.later hb)
                 have HB17:=h_ (HB16.out.trans (hb.mono HB16.out.size))
                 obtain ⟨q17,hq17⟩:∃ q,q=(trE cs es3).1.length:=⟨_,rfl⟩
                 rw [← hq17] at DC
                 clear hbs ho hb BY2 HW16 HB16 hq17
                 go_wp2_with fail
                 refine DC.out.mono ?_
                 rintro e w18 ⟨tv,rfl,hTr,_,hb⟩
                 obtain ⟨sv,ev,rfl,hR,hZ⟩:=hTr
                 obtain ⟨ae,ne,ce,rfl⟩:=hZ.lit
                 obtain ⟨a6,ns,ks,rfl⟩:=hR.lit12
                 have hle:=hZ.len
                 have N:=new_one12 w18 (.cells #[.slice a6 ns ks,.slice ae ne ce] 46)
                 have hX6:=(show Tbox (w18.alloc (.cells #[.slice a6 ns ks,.slice ae ne ce] 46)) w18.heap.size (.slice a6 ns ks) (.slice ae ne ce) from N.1)
                 obtain ⟨w19,hw19⟩:∃ w19,w19=w18.alloc (.cells #[.slice a6 ns ks,.slice ae ne ce] 46):=⟨_,rfl⟩
                 obtain ⟨tb,htb⟩:∃ tb,tb=w18.heap.size:=⟨_,rfl⟩
                 rw [← hw19,← htb] at hX6
                 have hb6:Below w18.heap.size w18 w19:=by rw [hw19];exact N.2
                 have HX19:=h_ hX6
                 have HEB:=h_ (And.intro hw19 htb)
                 have HB19:=h_ ((HB17.out.trans (hb.mono HB17.out.size)).trans (hb6.mono (Nat.le_trans HB17.out.size hb.size)))
                 have MA:=h_ (writer_Many (((HW17.out.later hb).later hb6).drew))
                 obtain ⟨me,hme⟩:∃ m,m=es3.length:=⟨_,rfl⟩
                 have HS4:=HS3.out
                 rw [← hme] at hle MA HS4
                 have hbel:Below w19.heap.size w19 w19.drew:=(Below.refl _ _).drew
                 have t1:=fun x:Ord.GW w19.drew=>((HX19.out.later (hbel.trans (x.grew.mono hbel.size)))).cells.2
                 have hme2:=HS4.2.2
                 have hme3:=HS4.2.1
                 have hme4:=HS4.1
                 clear hme hb hb6 hR hZ N hX6 hw19 htb DC HW17 HB17 HS4 HS3
                 go_wp2_with fail
                 rw [← HEB.out.1,← HEB.out.2]
                 by_cases hX0:X=0
                 ·subst hX0
                  clear hme2 hme3 hme4
                  refine Ord.wp_region_ord [(0,false),(1,false),(2,false),(3,false),(4,false),(5,false),(6,false),(7,true),(8,false),(9,false),(10,false),(11,false),(12,false),(13,false),(14,false),(15,false),(16,false),(17,false),(18,false),(19,false),(20,false),(21,false),(22,false),(23,false),(24,true),(25,false),(26,false),(27,false)] (by kernel_rfl) rfl (by kernel_rfl) (by kernel_rfl) (fun _ _ _ d _ h=>by cases d <;> exact h) ?_
                  refine Ord.ord_still rfl rfl (by kernel_rfl) (fun K hK=>?_)
                  go_big_quiet_op
                  refine hK _ ?_;clear hK K
                  refine Ord.ord_still rfl rfl (by kernel_rfl) (fun K hK=>?_)
                  go_big_quiet_op
                  refine hK _ ?_;clear hK K
                  refine Ord.ord_still rfl rfl (by kernel_rfl) (fun K hK=>?_)
                  go_big_quiet_op
                  refine hK _ ?_;clear hK K
                  refine Ord.ord_skip rfl (by kernel_rfl) (fun K hK=>?_)
                  go_big_quiet_op
                  refine hK _ ?_;clear hK K
                  refine Ord.ord_skip rfl (by kernel_rfl) (fun K hK=>?_)
                  go_big_quiet_op
                  refine hK _ ?_;clear hK K
                  refine Ord.ord_skip rfl (by kernel_rfl) (fun K hK=>?_)
                  go_big_quiet_op
                  refine hK _ ?_;clear hK K
                  refine Ord.ord_skip rfl (by kernel_rfl) (fun K hK=>?_)
                  go_big_quiet_op
                  refine hK _ ?_;clear hK K
                  refine Ord.ord_skip rfl (by kernel_rfl) (fun K hK=>?_)
                  go_big_quiet_op
                  refine hK _ ?_;clear hK K
                  refine Ord.ord_skip rfl (by kernel_rfl) (fun K hK=>?_)
                  go_big_quiet_op
                  refine hK _ ?_;clear hK K
                  refine Ord.ord_skip rfl (by kernel_rfl) (fun K hK=>?_)
                  go_big_quiet_op
                  refine hK _ ?_;clear hK K
                  refine Ord.ord_still rfl rfl (by kernel_rfl) (fun K hK=>?_)
                  go_big_quiet_op
                  refine hK _ ?_;clear hK K
                  refine Ord.ord_still rfl rfl (by kernel_rfl) (fun K hK=>?_)
                  go_big_quiet_op
                  refine hK _ ?_;clear hK K
                  refine Ord.ord_still rfl rfl (by kernel_rfl) (fun K hK=>?_)
                  go_big_quiet_op
                  refine hK _ ?_;clear hK K
                  refine Ord.ord_still rfl rfl (by kernel_rfl) (fun K hK=>?_)
                  go_big_quiet_op
                  refine hK _ ?_;clear hK K
                  refine Ord.ord_still rfl rfl (by kernel_rfl) (fun K hK=>?_)
                  go_big_quiet_op
                  refine hK _ ?_;clear hK K
                  refine Ord.ord_still rfl rfl (by kernel_rfl) (fun K hK=>?_)
                  go_big_quiet_op
                  refine hK _ ?_;clear hK K
                  refine Ord.ord_still rfl rfl (by kernel_rfl) (fun K hK=>?_)
                  go_big_quiet_op
                  refine hK _ ?_;clear hK K
                  refine Ord.ord_still rfl rfl (by kernel_rfl) (fun K hK=>?_)
                  go_big_quiet_op
                  refine hK _ ?_;clear hK K
                  refine Ord.ord_still rfl rfl (by kernel_rfl) (fun K hK=>?_)
                  go_big_quiet_op
                  refine hK _ ?_;clear hK K
                  refine Ord.ord_still rfl rfl (by kernel_rfl) (fun K hK=>?_)
                  go_big_quiet_op
                  refine hK _ ?_;clear hK K
                  refine Ord.ord_still rfl rfl (by kernel_rfl) (fun K hK=>?_)
                  go_big_quiet_op
                  refine hK _ ?_;clear hK K
                  refine Ord.ord_still rfl rfl (by kernel_rfl) (fun K hK=>?_)
                  go_big_quiet_op
                  refine hK _ ?_;clear hK K
                  refine Ord.ord_still rfl rfl (by kernel_rfl) (fun K hK=>?_)
                  go_big_quiet_op
                  refine hK _ ?_;clear hK K
                  refine Ord.ord_still rfl rfl (by kernel_rfl) (fun K hK=>?_)
                  go_big_quiet_op
                  refine hK _ ?_;clear hK K
                  refine Ord.ord_loud rfl (by kernel_rfl) (fun K hK=>?_)
                  go_big_op
                  refine MA.out.mono ?_
                  rintro e wz ⟨rfl,rfl⟩
                  refine hK _ _ (Ord.Grew.refl _) ?_
                  clear hK K
                  refine Ord.ord_still rfl rfl (by kernel_rfl) (fun K hK=>?_)
                  go_big_quiet_op
                  refine hK _ ?_;clear hK K
                  refine Ord.ord_still rfl rfl (by kernel_rfl) (fun K hK=>?_)
                  go_big_quiet_op
                  refine hK _ ?_;clear hK K
                  refine Ord.ord_still rfl rfl (by kernel_rfl) (fun K hK=>?_)
                  go_big_quiet_op
                  refine hK _ ?_;clear hK K
                  refine Ord.ord_nil ?_
                  go_wp2
                  go_ret
                  exact ⟨rfl,HB19.out.trans (hbel.mono HB19.out.size)⟩
                 ·have hxq:((X:Int) != 0)=true:=by rw [bne_iff_ne];omega
                  have hxq2:((X:Int) == 0)=false:=by rw [beq_eq_false_iff_ne];omega
                  obtain rfl:me=1:=by have:=hme3 hX0;omega
                  clear hme2 hme3 hme4 hX0
                  refine Ord.wp_region_ord [(0,false),(1,false),(2,false),(3,false),(4,false),(5,false),(6,false),(7,true),(8,false),(9,false),(10,false),(11,false),(12,false),(13,false),(14,false),(15,false),(16,false),(17,false),(18,false),(19,false),(20,false),(21,false),(22,false),(23,false),(24,true),(25,false),(26,false),(27,false)] (by kernel_rfl) rfl (by kernel_rfl) (by kernel_rfl) (fun _ _ _ d _ h=>by cases d <;> exact h) ?_
                  refine Ord.ord_still rfl rfl (by kernel_rfl) (fun K hK=>?_)
                  go_big_quiet_op
                  refine hK _ ?_;clear hK K
                  refine Ord.ord_still rfl rfl (by kernel_rfl) (fun K hK=>?_)
                  go_big_quiet_op
                  refine hK _ ?_;clear hK K
                  refine Ord.ord_still rfl rfl (by kernel_rfl) (fun K hK=>?_)
                  go_big_quiet_op
                  refine hK _ ?_;clear hK K
                  refine Ord.ord_still rfl rfl (by kernel_rfl) (fun K hK=>?_)
                  go_big_quiet_op
                  refine hK _ ?_;clear hK K
                  refine Ord.ord_still rfl rfl (by kernel_rfl) (fun K hK=>?_)
                  go_big_quiet_op
                  refine hK _ ?_;clear hK K
                  refine Ord.ord_still rfl rfl (by kernel_rfl) (fun K hK=>?_)
                  go_big_quiet_op
                  refine hK _ ?_;clear hK K
                  refine Ord.ord_still rfl rfl (by kernel_rfl) (fun K hK=>?_)
                  go_big_quiet_op
                  refine hK _ ?_;clear hK K
                  refine Ord.ord_loud rfl (by kernel_rfl) (fun K hK=>?_)
                  go_big_op
                  refine MA.out.mono ?_
                  rintro e wz ⟨rfl,rfl⟩
                  refine hK _ _ (Ord.Grew.refl _) ?_
                  clear hK K
                  refine Ord.ord_still rfl rfl (by kernel_rfl) (fun K hK=>?_)
                  go_big_quiet_op
                  refine hK _ ?_;clear hK K
                  refine Ord.ord_still rfl rfl (by kernel_rfl) (fun K hK=>?_)
                  go_big_quiet_op
                  refine hK _ ?_;clear hK K
                  refine Ord.ord_still rfl rfl (by kernel_rfl) (fun K hK=>?_)
                  go_big_quiet_op
                  refine hK _ ?_;clear hK K
                  refine Ord.ord_still rfl rfl (by kernel_rfl) (fun K hK=>?_)
                  go_big_quiet_op
                  refine hK _ ?_;clear hK K
                  refine Ord.ord_still rfl rfl (by kernel_rfl) (fun K hK=>?_)
                  go_big_quiet_op
                  refine hK _ ?_;clear hK K
                  refine Ord.ord_still rfl rfl (by kernel_rfl) (fun K hK=>?_)
                  go_big_quiet_op
                  refine hK _ ?_;clear hK K
                  refine Ord.ord_still rfl rfl (by kernel_rfl) (fun K hK=>?_)
                  go_big_quiet_op
                  refine hK _ ?_;clear hK K
                  refine Ord.ord_still rfl rfl (by kernel_rfl) (fun K hK=>?_)
                  go_big_quiet_op
                  refine hK _ ?_;clear hK K
                  refine Ord.ord_still rfl rfl (by kernel_rfl) (fun K hK=>?_)
                  go_big_quiet_op
                  refine hK _ ?_;clear hK K
                  refine Ord.ord_still rfl rfl (by kernel_rfl) (fun K hK=>?_)
                  go_big_quiet_op
                  refine hK _ ?_;clear hK K
                  refine Ord.ord_still rfl rfl (by kernel_rfl) (fun K hK=>?_)
                  go_big_quiet_op
                  refine hK _ ?_;clear hK K
                  refine Ord.ord_still rfl rfl (by kernel_rfl) (fun K hK=>?_)
                  go_big_quiet_op
                  refine hK _ ?_;clear hK K
                  refine Ord.ord_still rfl rfl (by kernel_rfl) (fun K hK=>?_)
                  go_big_quiet_op
                  refine hK _ ?_;clear hK K
                  refine Ord.ord_still rfl rfl (by kernel_rfl) (fun K hK=>?_)
                  go_big_quiet_op
                  refine hK _ ?_;clear hK K
                  refine Ord.ord_still rfl rfl (by kernel_rfl) (fun K hK=>?_)
                  go_big_quiet_op
                  refine hK _ ?_;clear hK K
                  refine Ord.ord_still rfl rfl (by kernel_rfl) (fun K hK=>?_)
                  go_big_quiet_op
                  refine hK _ ?_;clear hK K
                  refine Ord.ord_loud rfl (by kernel_rfl) (fun K hK=>?_)
                  go_big_op
                  refine MA.out.mono ?_
                  rintro e wz ⟨rfl,rfl⟩
                  refine hK _ _ (Ord.Grew.refl _) ?_
                  clear hK K
                  refine Ord.ord_still rfl rfl (by kernel_rfl) (fun K hK=>?_)
                  go_big_quiet_op
                  refine hK _ ?_;clear hK K
                  refine Ord.ord_still rfl rfl (by kernel_rfl) (fun K hK=>?_)
                  go_big_quiet_op
                  refine hK _ ?_;clear hK K
                  refine Ord.ord_still rfl rfl (by kernel_rfl) (fun K hK=>?_)
                  go_big_quiet_op
                  refine hK _ ?_;clear hK K
                  refine Ord.ord_nil ?_
                  go_wp2
                  go_ret
                  exact ⟨rfl,HB19.out.trans (hbel.mono HB19.out.size)⟩
 ·have hgt:(decide ((1:Int) > 0))=true:=rfl
  clear hf
  go_wp2_with fail
  refine (STOP.out w2 HB2).mono ?_
  rintro e w3 ⟨rfl,HB3⟩
  go_wp2
  go_ret
  exact ⟨rfl,HB3.out⟩
end Go.Proofs.YtpcobefhgkiolaaGreatDoor
