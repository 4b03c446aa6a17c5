/- -/
import Derived.Test.YtlapgdocpndfiaaGreatDoorURvB
import Derived.Test.YtlapgdocpndfiaaGreatDoorURvR
import Derived.Test.YtlapgdocpndfiaaGreatDoorTie
import Derived.Test.YtlapgdocpndfiaaGreatDoorCards
import Derived.LaidOnce
import Derived.SevenTiedAt
set_option maxHeartbeats 8000000
set_option linter.unusedVariables false
set_option linter.unusedSimpArgs false
set_option maxRecDepth 1000000
namespace Go.Proofs.YtlapgdocpndfiaaGreatDoor
open _root_.Go.Proofs.Tryz
open Go.RowKit Go.Shelf
theorem zi2 (v:Value) (l:Bs) (w:World) (h:Rd w v l) (hT:Tabs w) (hF:Frs w) :
  Calls prog 3 #[v] w fun e w'=>e=.returned (.bool true)/\Below w.heap.size w w':=by
 obtain ⟨ao,cap,hv,_⟩:=id h.shape;subst hv;have hlen:=h.len;have hsm:=h.small;have AL:=h_ (fun wz (hz:Below w.heap.size w wz)=>zrO wz (hT.later hz) (hF.later hz));have DA:=h_ (fun wz (hz:Below w.heap.size w wz)=>zg1 (.slice ao l.length cap) l wz (h.later hz l_) (hT.later hz) (hF.later hz));have DB:=h_ (fun wz (hz:Below w.heap.size w wz)=>zoV (.slice ao l.length cap) l wz (h.later hz l_));clear h hT hF;by_cases hl:4000 < l.length
 ·have d1:decide ((4000:Int) < (l.length:Int))=true:=decide_eq_true (by omega);clear hl DA DB;go_enter func3,ntmps3;go_wp2_with fail;refine (AL.o w (Below.refl _ _)).mono ?_;rintro e w1 ⟨rfl,hb⟩;have HB:=h_ hb;clear hb;go_wp2_with fail;refine (AL.o w1 HB.o).mono ?_;rintro e w2 ⟨rfl,hb⟩;replace HB:=bT HB hb;clear hb;go_wp2;go_ret;exact ⟨rfl,HB.o⟩
 have d1:decide ((4000:Int) < (l.length:Int))=false:=decide_eq_false (by omega);clear hl;go_enter func3,ntmps3;go_wp2_with fail;refine (AL.o w (Below.refl _ _)).mono ?_;rintro e w1 ⟨rfl,hb⟩;have HB:=h_ hb;clear hb AL;unfold RvO at DA DB;generalize rvD l=D at *;obtain ⟨p,cs,es,x⟩:=D;dsimp only at DA DB;go_wp2_with fail;refine (DA.o w1 HB.o).mono ?_;rintro e w2 ⟨tv,rfl,hT,hCS,hb⟩;replace HB:=bT HB hb;clear hb DA hCS;obtain ⟨sv,ev,rfl,hR,hZ⟩:=hT;obtain ⟨ae,ne,ce,rfl⟩:=hZ.lit;obtain ⟨ac,nc,cc,rfl⟩:=hR.lit12;have N:=za7 w2 (.cells #[.slice ac nc cc,.slice ae ne ce] 27);have HX:=h_ (show Tbox (w2.alloc (.cells #[.slice ac nc cc,.slice ae ne ce] 27)) w2.heap.size (.slice ac nc cc) (.slice ae ne ce) from N.1);have HT:=h_ (show RdT13 (w2.alloc (.cells #[.slice ac nc cc,.slice ae ne ce] 27)) (.agg #[.slice ac nc cc,.slice ae ne ce]) cs es from ⟨_,_,rfl,hR.later N.2 l_,hZ.later N.2 l_⟩);replace HB:=bT HB N.2;clear hR hZ N;go_wp2_with fail;obtain ⟨w3,hw3⟩:=nm_ (w2.alloc (.cells #[.slice ac nc cc,.slice ae ne ce] 27));obtain ⟨g1,hg1⟩:=nm_ w2.heap.size;rw [<- hw3,<- hg1] at HX;rw [<- hw3] at HT HB;rw [<- hw3,<- hg1];clear hw3 hg1;refine (DB.o w3 HB.o).mono ?_;rintro e w4 ⟨tv,rfl,hT,hCS,hb⟩;replace HB:=bT HB hb;replace HX:=h_ (HX.later hb);replace HT:=h_ (HT.later hb);clear hb DB hCS;obtain ⟨sv,ev,rfl,hR,hZ⟩:=hT;obtain ⟨ae2,ne2,ce2,rfl⟩:=hZ.lit;obtain ⟨ac2,nc2,cc2,rfl⟩:=hR.lit12;have N:=za7 w4 (.cells #[.slice ac2 nc2 cc2,.slice ae2 ne2 ce2] 27);have HX2:=h_ (show Tbox (w4.alloc (.cells #[.slice ac2 nc2 cc2,.slice ae2 ne2 ce2] 27)) w4.heap.size (.slice ac2 nc2 cc2) (.slice ae2 ne2 ce2) from N.1);have HT2:=h_ (show RdT13 (w4.alloc (.cells #[.slice ac2 nc2 cc2,.slice ae2 ne2 ce2] 27)) (.agg #[.slice ac2 nc2 cc2,.slice ae2 ne2 ce2]) cs es from ⟨_,_,rfl,hR.later N.2 l_,hZ.later N.2 l_⟩);replace HB:=bT HB N.2;replace HX:=h_ (HX.later N.2);replace HT:=h_ (HT.later N.2);clear hR hZ N;obtain ⟨c0,c1⟩:=HX.cells;obtain ⟨c2,c3⟩:=HX2.cells;have HSM:=h_ (zuQ _ _ cs cs es es _ HT.o HT2.o);clear HT HT2 HX HX2;go_wp2_with fail;refine HSM.mono ?_;rintro e w8 ⟨z,rfl,hz,hb⟩;obtain rfl:z=true:=hz.2 (by simp);replace HB:=bT HB hb;clear hb HSM c0 c1 c2 c3 hz;go_wp2;go_ret;exact ⟨rfl,HB.o⟩
end Go.Proofs.YtlapgdocpndfiaaGreatDoor
namespace Go.Proofs.YtlapgdocpndfiaaGreatDoor.reviveBytes
open _root_.Go.Proofs.Tryz
open Go.ChangeShapes Go.WideShapes Go.ChangeAt Go.RowKit
set_option maxRecDepth 1000000 in
theorem lifted (os:Os) (started:os.Started) (H:Type) (enc:TypeId × Value->H) :
  ReturnsInHanded {} Tryz.checked os 3 .any (fun w args=>(Rows.reviveBytesSpec.pre enc prog Tryz.f3 [] false w args/\laidMetH prog Rows.reviveBytesRow.laid w)/\sizedMet enc prog Tryz.f3 (OpenSpec.ofChange Rows.reviveBytesSpec) false w args)
   (Rows.reviveBytesSpec.post enc prog Tryz.f3 false true false false):=by
 refine returnsInHanded_of_change_and (C:=Tryz.checked) (X:=fun w _=>laidMetH prog Rows.reviveBytesRow.laid w) (fun _ _ _ hh h=>h.of_heap hh) own started (by kernel_rfl) func3
  (ChangeSpec.witness_shaped (enc:=enc) (C:=Tryz.checked) (os:=os) (X:=fun w _=>laidMetH prog Rows.reviveBytesRow.laid w) false (World.laidAll prog os Rows.reviveBytesRow.laid) #[.slice none 0 0] 8 (World.laidAll_os _ _ _)
   (World.shaped_of_ZipB (by kernel_rfl) (by kernel_rfl)) (by kernel_rfl) (by kernel_rfl) (by kernel_rfl)
   (by rw [MakeChecks.laidMetH_plain _ _ _ (by kernel_rfl)];exact laidMet_laidAll _ (by kernel_rfl) (by kernel_rfl))) ?_
 intro W base args ds gs before hval0 hW _ hsz0 hL0 _;have hL:=hL0;rw [MakeChecks.laidMetH_plain _ _ _ (by kernel_rfl)] at hL;have hT:Tabs W:=zD9 (Lib.laidMet.reads hL (.tail _ (.tail _ (.head _)))) (Lib.laidMet.reads hL (.head _));have hF:=zyX (Lib.laidMet.reads hL (.tail _ (.head _)));have hsz:(DataW.weightsEach prog (Tryz.f3.params.toList ++ Rows.reviveBytesSpec.plain.varTypes prog) (ds ++ gs)).all (·<=reachBytes)=true:=hsz0;have hval:∀ (j:Nat) t v,Tryz.f3.params[j]?=some t->args[j]?=some v->Value.okWide prog W .any base t v:=hval0;have hW':=hW;obtain ⟨p,q,hA0,hV,rfl,hfz,hnd⟩:=hW;have hA:DataW.TrodAll enc prog W 0 (fun _=>true) true Tryz.f3.params.toList args.toList ds p:=hA0;rw [params3] at hA hval hsz;obtain ⟨v0,vs0,d0,ds0,p0,q0,hargs,rfl,rfl,h0,r0⟩:=trodAll_cons hA;obtain ⟨rfl,rfl,rfl⟩:=trodAll_nil r0;obtain rfl:args=#[v0]:=by cases args;simp_all
 obtain ⟨rfl,rfl⟩:=trodVars_none hV;have k0:=h0;have lt0:∀ x ∈ p0,x.block < W.heap.size:=by obtain ⟨m,hm⟩:=k0;exact DataW.trod_lt m _ _ _ hm
 obtain ⟨l0,w0⟩:=zDG (hval 0 22 v0 rfl rfl) h0 hsz (j:=0) rfl rfl;clear hA0 hval0 hsz0;refine (zi2 v0 l0 W w0 hT hF).mono fun e W' ⟨he,bel⟩=>?_;subst he;exact ⟨_,rfl,_,_,_,[],_,[],hW',trodAll_mk1 (shut_bool underlying4 _),(trodAll_cons_mk (Below.trod laidOut (by kernel_rfl) (of_decide_eq_true (by kernel_rfl)) k0 bel lt0) trodAll_mk0),rfl,bel.frame _,fun h=>by cases h⟩
theorem closed:joinedFacts Tryz.pinned.checked.prog 3 Tryz.f3 Rows.reviveBytesSpec Rows.reviveBytesRow=true:=by kernel_rfl
theorem over:Rows.reviveBytesRow.holds Tryz.pinned (OpenSpec.ofChange Rows.reviveBytesSpec) :=
 OpenClaim.holds_of_wide 3 Tryz.f3 rfl rfl rfl rfl rfl rfl rfl ⟨rfl,rfl,rfl,rfl,rfl⟩ rfl rfl rfl rfl rfl (by kernel_rfl) func3 closed
  (of_decide_eq_true (by kernel_rfl)) (by unfold Func.isWrapper;first | (rw [if_pos (by decide +kernel)];kernel_rfl) | (rw [if_neg (by decide +kernel)];exact ⟨rfl,rfl⟩))
  (fun os started H enc _=>lifted os started H enc)
theorem proved:Rows.ReviveBytesCardSaid :=
 Claim7.holds_tied_plain_at .later [] _ _ _ _ over (fun _ h=>by cases h) (by kernel_rfl) (fun _ h=>by cases h) reviveBytes_row_tie rfl ⟨rfl,rfl⟩ (by kernel_rfl) rfl
  (fun f fn hf hfn=>by
   obtain rfl : f = 3 := Option.some.inj ((show prog.funcNamed "deckle/decklelaw16.ReviveBytes" = some 3 by kernel_rfl).symm.trans hf) |>.symm
   obtain rfl:fn=Tryz.f3:=(Option.some.inj (func3.symm.trans hfn)).symm
   exact ⟨by kernel_rfl,fun j t ht=>by
    rw [params3] at ht
    have hm:t ∈ [22]:=by simpa using Array.mem_of_getElem? ht
    have hall:([22].all fun u=>!prog.wantsStandIn u)=true:=by kernel_rfl
    exact (show prog.wantsStandIn t=false by simpa using List.all_eq_true.1 hall t hm)⟩)
  (by kernel_rfl)
#print axioms proved
end Go.Proofs.YtlapgdocpndfiaaGreatDoor.reviveBytes
