/- -/
import Derived.Test.YtlapgdocpndfiaaGreatDoorUColTk
set_option maxHeartbeats 16000000
set_option linter.unusedVariables false
set_option linter.unusedSimpArgs false
set_option maxRecDepth 1000000
namespace Go.Proofs.YtlapgdocpndfiaaGreatDoor
open _root_.Go.Proofs.Tryz
open Go.RowKit
def OneR (w:World) (m:Nat) (v:Value) (l:Bs) (kind:Int) (i:Nat) (p:CellB) (k:Nat) (e:Ending) (w':World):Prop :=
 ∃ c:CellB,e=.returned (cellV c.1 c.2)/\w.grownBy w' (some m)/\Mdl w' m v l (rd1 l kind i (ceL p) k).2.1 (rd1 l kind i (ceL p) k).2.2/\c.1 < 18446744073709551616/\c.2.size<=1000/\((rd1 l kind i (ceL p) k).2.2=0->ceL c=(rd1 l kind i (ceL p) k).1)
theorem zAY {l:Bs} {k:Nat} {most:Int} (hk:k<=l.length) (hm:0<=most):((rdB l k most).1.length:Int)<=most:=by
 by_cases h:(rdB l k most).2.2=0
 ·exact (zgE hk h).2.2
 unfold rdB at h ⊢;by_cases h1:(getB (l.drop k) most).2.2≠0
 ·rw [if_pos h1];simpa using hm
 rw [if_neg h1] at h;exact absurd rfl h
theorem zF8 {l:Bs} {kind:Int} {i k x k3 x3 k4 x4 x7 x8:Nat} {p:Ce} {bb:Bs} (ht:kind=3∨kind=4) (hU:rdU l k p.2.length=(x,k3,x3))
  (hbb:bb=(if x3=0 then (rdB l k3 (256 - (x:Int))).1 else [])) (hk4:k4=(if x3=0 then (rdB l k3 (256 - (x:Int))).2.1 else k3)) (hx4:x4=(if x3=0 then (rdB l k3 (256 - (x:Int))).2.2 else x3))
  (h7:x7=(if x4=0 then (if shr p.2 (p.2.take x ++ bb)=x then 0 else 6) else x4)) (h8:x8=(if x7=0 then (if kind=4/\utf8 (p.2.take x ++ bb)=false then 11 else 0) else x7)) :
  (rd1 l kind i p k).2.1=k4/\(rd1 l kind i p k).2.2=x8/\(x8=0->(rd1 l kind i p k).1=(0,p.2.take x ++ bb)):=by
 unfold rd1;rw [if_pos ht,hU];dsimp only;by_cases h3:x3=0
 ·rw [if_pos h3] at hbb hk4 hx4;rw [if_neg (fun h=>h h3),<- hbb,<- hx4,<- hk4];by_cases h4:x4=0
  ·rw [if_pos h4] at h7;rw [if_neg (fun h=>h h4)];by_cases hN:shr p.2 (p.2.take x ++ bb)=x
   ·rw [if_pos hN] at h7;rw [if_pos h7] at h8;rw [if_neg (fun h=>h hN)];by_cases hu:kind=4/\utf8 (p.2.take x ++ bb)=false
    ·rw [if_pos hu] at h8;rw [if_pos hu];exact ⟨rfl,h8.symm,fun h=>by omega⟩
    rw [if_neg hu] at h8;rw [if_neg hu];exact ⟨rfl,h8.symm,fun _=>rfl⟩
   rw [if_neg hN] at h7;rw [if_neg (by omega)] at h8;rw [if_pos hN];exact ⟨rfl,by dsimp only;omega,fun h=>by omega⟩
  rw [if_neg h4] at h7;rw [if_neg (by omega)] at h8;rw [if_pos h4];exact ⟨rfl,by dsimp only;omega,fun h=>by omega⟩
 rw [if_neg h3] at hk4 hx4;rw [if_neg (by omega)] at h7;rw [if_neg (by omega)] at h8;rw [if_pos h3];exact ⟨hk4.symm,by dsimp only;omega,fun h=>by omega⟩
theorem _root_.Go.World.grownBy.sets {w w':World} {m g:Nat} (h:w.grownBy w' (some m)) (hg:w.heap.size<=g) (i j:Nat) (a b:Value):w.grownBy ((w'.setCell ⟨g,i,none⟩ a).setCell ⟨g,j,none⟩ b) (some m):=by
 have hk:w'.grownBy ((w'.setCell ⟨g,i,none⟩ a).setCell ⟨g,j,none⟩ b) (some g):=za2 (za2 (World.grownBy.refl _ _) _) _;exact ⟨hk.os.trans h.os,hk.tape.trans h.tape,hk.output.trans h.output,Nat.le_trans h.size hk.size,fun q h1 h2=>(hk.block q (Nat.lt_of_lt_of_le h1 h.size) (fun e=>by injection e with e;omega)).trans (h.block q h1 h2)⟩
theorem zAR (m:Nat) (v:Value) (l:Bs) (k:Nat) (w:World) (hM:Mdl w m v l k 0) (kind:Int) (i:Nat) (px:Nat) (ps:ByteArray) (hpx:px < 18446744073709551616) (hps:ps.size<=256) (hi:i<=140737488351232) (h0:i=0) (hz:kind≠0) (h3:kind≠3) (h4:kind≠4) :
  Calls prog 238 #[.pointer (some ⟨m,0,none⟩),.int .i64 kind,.int .i64 (i:Int),cellV px ps] w (OneR w m v l kind i (px,ps) k):=by
 unfold cellV;have hml:=hM.lt;have HM2:=h_ (show Mdl ((w.alloc (.cells #[.int .u64 (px:Int),.string ps] 82)).alloc (.cells #[.int .u64 0,.string ⟨#[]⟩] 82)) m v l k 0 from hM.later (((Below.refl w.heap.size w).alloc l_ _).alloc (by rw [World.size_alloc];omega) _) l_);have HG2:=h_ (show w.grownBy ((w.alloc (.cells #[.int .u64 (px:Int),.string ps] 82)).alloc (.cells #[.int .u64 0,.string ⟨#[]⟩] 82)) (some m) from below_grown (((Below.refl w.heap.size w).alloc l_ _).alloc (by rw [World.size_alloc];omega) _) _);have HP2:=h_ (show ((w.alloc (.cells #[.int .u64 (px:Int),.string ps] 82)).alloc (.cells #[.int .u64 0,.string ⟨#[]⟩] 82)).heap[w.heap.size]?=some (.cells #[.int .u64 (px:Int),.string ps] 82 (0,0)) from (Below.heap_alloc _ _ _ (by rw [World.size_alloc];omega)).trans (heap_alloc_new _ _));have HR2:=h_ (show ((w.alloc (.cells #[.int .u64 (px:Int),.string ps] 82)).alloc (.cells #[.int .u64 0,.string ⟨#[]⟩] 82)).heap[w.heap.size + 1]?=some (.cells #[.int .u64 0,.string ⟨#[]⟩] 82 (0,0)) from by have:=heap_alloc_new (w.alloc (.cells #[.int .u64 (px:Int),.string ps] 82)) (.cells #[.int .u64 0,.string ⟨#[]⟩] 82);rw [World.size_alloc] at this;exact this);have HS2:=h_ (show w.heap.size + 2<=((w.alloc (.cells #[.int .u64 (px:Int),.string ps] 82)).alloc (.cells #[.int .u64 0,.string ⟨#[]⟩] 82)).heap.size from by rw [World.size_alloc,World.size_alloc];omega);obtain ⟨gp,hgp⟩:=nm_ w.heap.size;have HGP:=h_ (show m < gp by omega);have HGW:=h_ (show w.heap.size<=gp by omega);have HVB:=h_ (show ∀ j,j < l.length->(adr v j).block < gp from fun j hj=>by rw [hgp];exact hM.rd.block hj);subst h0;have q3:(kind == 3)=false:=by rw [beq_eq_false_iff_ne];exact h3
 have q4:(kind == 4)=false:=by rw [beq_eq_false_iff_ne];exact h4
 have q0:(kind != 0)=true:=by rw [bne_iff_ne];exact hz
 have HZk:=h_ hz;clear hM;go_enter func238,ntmps238;go_wp2_with fail;generalize ((w.alloc (.cells #[.int .u64 (px:Int),.string ps] 82)).alloc (.cells #[.int .u64 0,.string ⟨#[]⟩] 82))=w2 at *;rw [<- hgp] at HP2 HR2 HS2 ⊢;clear hgp;refine (zcF m v l k w2 HM2.o 18446744073709551615 (by decide)).mono ?_;rintro e w3 ⟨rfl,hg3,hM3⟩;have hxl:=zxH (l:=l) (k:=k) (most:=18446744073709551615);rcases hr:rdU l k 18446744073709551615 with ⟨x,k3,x3⟩
 rw [hr] at hM3 hxl;dsimp only at hM3 hxl ⊢;have HU:=h_ hr;have HM3:=h_ hM3;have HG3:=h_ (HG2.trans hg3);have HV3:=h_ (show ∀ j,j < l.length->(adr v j).block≠gp + 1 from fun j hj e=>by have h1:=HVB.o j hj;omega);have HR3:=h_ ((hg3.block (gp + 1) (by have:=HS2.o;omega) (by intro e;injection e with e;have:=HGP.o;omega)).trans HR2.o);clear hr hM3 hg3 HM2 HG2 HP2 HR2;have c0:w3.cell? ⟨gp + 1,0,none⟩=some (.int .u64 0):=by rw [cell_of_row _ _ _ _ _ _ HR3.o];rfl
 have f0:w3.frozen? ⟨gp + 1,0,none⟩=false:=frozen_of_row _ _ _ _ _ HR3.o;have c1:(w3.setCell ⟨gp + 1,0,none⟩ (.int .u64 (x:Int))).cell? ⟨gp + 1,1,none⟩=some (.string ⟨#[]⟩):=by rw [cell_of_row _ _ _ _ _ _ (block_setCell HR3.o _)];rfl
 have f1:(w3.setCell ⟨gp + 1,0,none⟩ (.int .u64 (x:Int))).frozen? ⟨gp + 1,1,none⟩=false:=frozen_of_row _ _ _ _ _ (block_setCell HR3.o _);have e0:((w3.setCell ⟨gp + 1,0,none⟩ (.int .u64 (x:Int))).setCell ⟨gp + 1,1,none⟩ (.string ⟨#[]⟩)).cell? ⟨gp + 1,0,none⟩=some (.int .u64 (x:Int)):=by rw [cell_of_row _ _ _ _ _ _ (block_setCell (block_setCell HR3.o _) _)];rfl
 have e1:((w3.setCell ⟨gp + 1,0,none⟩ (.int .u64 (x:Int))).setCell ⟨gp + 1,1,none⟩ (.string ⟨#[]⟩)).cell? ⟨gp + 1,1,none⟩=some (.string ⟨#[]⟩):=by rw [cell_of_row _ _ _ _ _ _ (block_setCell (block_setCell HR3.o _) _)];rfl
 have HM4:=h_ (show Mdl ((w3.setCell ⟨gp + 1,0,none⟩ (.int .u64 (x:Int))).setCell ⟨gp + 1,1,none⟩ (.string ⟨#[]⟩)) m v l k3 x3 from by
  have hgv:w3.grownBy ((w3.setCell ⟨gp + 1,0,none⟩ (.int .u64 (x:Int))).setCell ⟨gp + 1,1,none⟩ (.string ⟨#[]⟩)) (some (gp + 1)):=za2 (za2 (World.grownBy.refl _ _) _) _
  refine HM3.same (hgv.block m HM3.lt (by intro e;injection e with e;have:=HGP.o;omega)) fun j hj=>hgv.block _ (HM3.rd.block hj) (fun e=>?_)
  injection e with e
  exact HV3.o j hj e)
 have HG4:=h_ (show w.grownBy ((w3.setCell ⟨gp + 1,0,none⟩ (.int .u64 (x:Int))).setCell ⟨gp + 1,1,none⟩ (.string ⟨#[]⟩)) (some m) from HG3.sets (by have:=HGW.o;omega) _ _ _ _);clear HR3 HM3 HG3;go_wp2;generalize ((w3.setCell ⟨gp + 1,0,none⟩ (.int .u64 (x:Int))).setCell ⟨gp + 1,1,none⟩ (.string ⟨#[]⟩))=w9 at *;refine bodyPost_ret (by simp [results,results238,go_sem,e0,e1];try rfl) rfl ?_;have hrd:rd1 l kind 0 (ceL (px,ps)) k=(if x3=0 then ((x,[]),k3,0) else ((0,[]),k3,x3)):=by
  unfold rd1;rw [if_neg (by omega),HU.o];dsimp only;by_cases h9:x3=0
  ·rw [if_neg (by omega),if_pos ⟨rfl,HZk.o⟩,if_pos h9]
  rw [if_pos h9,if_neg h9]
 have hr1:(rd1 l kind 0 (ceL (px,ps)) k).2.1=k3/\(rd1 l kind 0 (ceL (px,ps)) k).2.2=x3:=by
  rw [hrd];split
  ·rename_i h9;exact ⟨rfl,h9.symm⟩
  exact ⟨rfl,rfl⟩
 refine ⟨(x,⟨#[]⟩),rfl,HG4.o,by rw [hr1.1,hr1.2];exact HM4.o,hxl,by simp [ByteArray.size],fun h=>?_⟩;rw [hr1.2] at h;rw [hrd,if_pos h];rfl
theorem zxA (m:Nat) (v:Value) (l:Bs) (k:Nat) (w:World) (hM:Mdl w m v l k 0) (kind:Int) (i:Nat) (px:Nat) (ps:ByteArray) (hpx:px < 18446744073709551616) (hps:ps.size<=256) (hi:i<=140737488351232) (hz:¬ (i=0/\kind≠0)) (h3:kind≠3) (h4:kind≠4) :
  Calls prog 238 #[.pointer (some ⟨m,0,none⟩),.int .i64 kind,.int .i64 (i:Int),cellV px ps] w (OneR w m v l kind i (px,ps) k):=by
 unfold cellV;have hml:=hM.lt;have HM2:=h_ (show Mdl ((w.alloc (.cells #[.int .u64 (px:Int),.string ps] 82)).alloc (.cells #[.int .u64 0,.string ⟨#[]⟩] 82)) m v l k 0 from hM.later (((Below.refl w.heap.size w).alloc l_ _).alloc (by rw [World.size_alloc];omega) _) l_);have HG2:=h_ (show w.grownBy ((w.alloc (.cells #[.int .u64 (px:Int),.string ps] 82)).alloc (.cells #[.int .u64 0,.string ⟨#[]⟩] 82)) (some m) from below_grown (((Below.refl w.heap.size w).alloc l_ _).alloc (by rw [World.size_alloc];omega) _) _);have HP2:=h_ (show ((w.alloc (.cells #[.int .u64 (px:Int),.string ps] 82)).alloc (.cells #[.int .u64 0,.string ⟨#[]⟩] 82)).heap[w.heap.size]?=some (.cells #[.int .u64 (px:Int),.string ps] 82 (0,0)) from (Below.heap_alloc _ _ _ (by rw [World.size_alloc];omega)).trans (heap_alloc_new _ _));have HR2:=h_ (show ((w.alloc (.cells #[.int .u64 (px:Int),.string ps] 82)).alloc (.cells #[.int .u64 0,.string ⟨#[]⟩] 82)).heap[w.heap.size + 1]?=some (.cells #[.int .u64 0,.string ⟨#[]⟩] 82 (0,0)) from by have:=heap_alloc_new (w.alloc (.cells #[.int .u64 (px:Int),.string ps] 82)) (.cells #[.int .u64 0,.string ⟨#[]⟩] 82);rw [World.size_alloc] at this;exact this);have HS2:=h_ (show w.heap.size + 2<=((w.alloc (.cells #[.int .u64 (px:Int),.string ps] 82)).alloc (.cells #[.int .u64 0,.string ⟨#[]⟩] 82)).heap.size from by rw [World.size_alloc,World.size_alloc];omega);obtain ⟨gp,hgp⟩:=nm_ w.heap.size;have HGP:=h_ (show m < gp by omega);have HGW:=h_ (show w.heap.size<=gp by omega);have HVB:=h_ (show ∀ j,j < l.length->(adr v j).block < gp from fun j hj=>by rw [hgp];exact hM.rd.block hj);have q3:(kind == 3)=false:=by rw [beq_eq_false_iff_ne];exact h3
 have q4:(kind == 4)=false:=by rw [beq_eq_false_iff_ne];exact h4
 have HI0:=h_ hz;have hq:((i:Int) == 0)=false∨(((i:Int) == 0)=true/\(kind != 0)=false):=by
  rcases Nat.eq_zero_or_pos i with h | h
  ·right;subst h;exact ⟨by simp,by rw [bne_eq_false_iff_eq];exact Decidable.byContradiction fun h=>hz ⟨rfl,h⟩⟩
  left;rw [beq_eq_false_iff_ne];omega
 clear hz;rcases hq with q0 | ⟨q0,q9⟩
 all_goals
  clear hM;go_enter func238,ntmps238;go_wp2_with fail;generalize ((w.alloc (.cells #[.int .u64 (px:Int),.string ps] 82)).alloc (.cells #[.int .u64 0,.string ⟨#[]⟩] 82))=w2 at *;rw [<- hgp] at HP2 HR2 HS2 ⊢;clear hgp;have p0:w2.cell? ⟨gp,0,none⟩=some (.int .u64 (px:Int)):=by rw [cell_of_row _ _ _ _ _ _ HP2.o];rfl
  have MI:=h_ (fun wz (h:w2.grownBy wz none)=>zp8 m v l k wz (HM2.same (h.block m HM2.lt (by simp)) (fun j hj=>h.block _ (HM2.rd.block hj) (by simp))));rcases hr:rdU l k 18446744073709551615 with ⟨x,k3,x3⟩
  rw [hr] at MI;have HU:=h_ hr;clear hr;dsimp only at MI
  have HDv:=h_ (show IntKind.u64.wrap ((px:Int) + IntKind.u64.wrap (zag x))=(addZ px x:Int) from by
   rw [IntKind.wrap_u64,IntKind.wrap_u64];unfold addZ;omega)
  go_region_with (
   go_at_call 202
   have hMI:=MI.o w2.drew ⟨rfl,rfl,rfl,l_,fun _ _ _=>rfl⟩
   refine hMI.mono ?_
   clear hMI
   rintro e w3 ⟨rfl,hg3,hM3⟩
   have HP3:=(hg3.block gp (by have:=HS2.o;show gp < w2.heap.size;omega) (by intro e;injection e with e;have:=HGP.o;omega)).trans HP2.o
   have HR3:=(hg3.block (gp + 1) (by have:=HS2.o;show gp + 1 < w2.heap.size;omega) (by intro e;injection e with e;have:=HGP.o;omega)).trans HR2.o
   have p3:w3.cell? ⟨gp,0,none⟩=some (.int .u64 (px:Int)):=by rw [cell_of_row _ _ _ _ _ _ HP3];rfl
   have c0:w3.cell? ⟨gp + 1,0,none⟩=some (.int .u64 0):=by rw [cell_of_row _ _ _ _ _ _ HR3];rfl
   have f0:w3.frozen? ⟨gp + 1,0,none⟩=false:=frozen_of_row _ _ _ _ _ HR3
   have c1:(w3.setCell ⟨gp + 1,0,none⟩ (.int .u64 (IntKind.u64.wrap ((px:Int) + IntKind.u64.wrap (zag x))))).cell? ⟨gp + 1,1,none⟩=some (.string ⟨#[]⟩):=by rw [cell_of_row _ _ _ _ _ _ (block_setCell HR3 _)];rfl
   have f1:(w3.setCell ⟨gp + 1,0,none⟩ (.int .u64 (IntKind.u64.wrap ((px:Int) + IntKind.u64.wrap (zag x))))).frozen? ⟨gp + 1,1,none⟩=false:=frozen_of_row _ _ _ _ _ (block_setCell HR3 _)
   have HP3:=h_ HP3
   have HR3:=h_ HR3
   )
  all_goals (
   rw [HDv.o]
   clear c0 c1 f0 f1 p3 p0
   have HM3:=h_ hM3
   have HG3:=h_ (HG2.trans_drew.trans hg3)
   have HV3:=h_ (show ∀ j,j < l.length->(adr v j).block≠gp + 1 from fun j hj e=>by have h1:=HVB.o j hj;omega)
   clear hM3 hg3 HP3 HM2 HG2 HP2 HR2 MI
   have c0:w3.cell? ⟨gp + 1,0,none⟩=some (.int .u64 0):=by rw [cell_of_row _ _ _ _ _ _ HR3.o];rfl
   have f0:w3.frozen? ⟨gp + 1,0,none⟩=false:=frozen_of_row _ _ _ _ _ HR3.o
   have c1:(w3.setCell ⟨gp + 1,0,none⟩ (.int .u64 (addZ px x:Int))).cell? ⟨gp + 1,1,none⟩=some (.string ⟨#[]⟩):=by rw [cell_of_row _ _ _ _ _ _ (block_setCell HR3.o _)];rfl
   have f1:(w3.setCell ⟨gp + 1,0,none⟩ (.int .u64 (addZ px x:Int))).frozen? ⟨gp + 1,1,none⟩=false:=frozen_of_row _ _ _ _ _ (block_setCell HR3.o _)
   have e0:((w3.setCell ⟨gp + 1,0,none⟩ (.int .u64 (addZ px x:Int))).setCell ⟨gp + 1,1,none⟩ (.string ⟨#[]⟩)).cell? ⟨gp + 1,0,none⟩=some (.int .u64 (addZ px x:Int)):=by rw [cell_of_row _ _ _ _ _ _ (block_setCell (block_setCell HR3.o _) _)];rfl
   have e1:((w3.setCell ⟨gp + 1,0,none⟩ (.int .u64 (addZ px x:Int))).setCell ⟨gp + 1,1,none⟩ (.string ⟨#[]⟩)).cell? ⟨gp + 1,1,none⟩=some (.string ⟨#[]⟩):=by rw [cell_of_row _ _ _ _ _ _ (block_setCell (block_setCell HR3.o _) _)];rfl
   have HM4:=h_ (show Mdl ((w3.setCell ⟨gp + 1,0,none⟩ (.int .u64 (addZ px x:Int))).setCell ⟨gp + 1,1,none⟩ (.string ⟨#[]⟩)) m v l k3 x3 from by
    have hgv:w3.grownBy ((w3.setCell ⟨gp + 1,0,none⟩ (.int .u64 (addZ px x:Int))).setCell ⟨gp + 1,1,none⟩ (.string ⟨#[]⟩)) (some (gp + 1)):=za2 (za2 (World.grownBy.refl _ _) _) _
    refine HM3.same (hgv.block m HM3.lt (by intro e;injection e with e;have:=HGP.o;omega)) fun j hj=>hgv.block _ (HM3.rd.block hj) (fun e=>?_)
    injection e with e
    exact HV3.o j hj e)
   have HG4:=h_ (show w.grownBy ((w3.setCell ⟨gp + 1,0,none⟩ (.int .u64 (addZ px x:Int))).setCell ⟨gp + 1,1,none⟩ (.string ⟨#[]⟩)) (some m) from HG3.sets (by have:=HGW.o;omega) _ _ _ _)
   clear HR3 HM3 HG3
   go_wp2
   generalize ((w3.setCell ⟨gp + 1,0,none⟩ (.int .u64 (addZ px x:Int))).setCell ⟨gp + 1,1,none⟩ (.string ⟨#[]⟩))=w9 at *
   refine bodyPost_ret (by simp [results,results238,go_sem,e0,e1];try rfl) rfl ?_
   have hrd:rd1 l kind i (ceL (px,ps)) k=(if x3=0 then ((addZ px x,[]),k3,0) else ((0,[]),k3,x3)):=by
    unfold rd1
    rw [if_neg (by omega),HU.o]
    dsimp only
    by_cases h9:x3=0
    ·rw [if_neg (by omega),if_neg HI0.o,if_pos h9];rfl
    ·rw [if_pos h9,if_neg h9]
   have hr1:(rd1 l kind i (ceL (px,ps)) k).2.1=k3/\(rd1 l kind i (ceL (px,ps)) k).2.2=x3:=by
    rw [hrd];split
    ·rename_i h9;exact ⟨rfl,h9.symm⟩
    ·exact ⟨rfl,rfl⟩
   refine ⟨(addZ px x,⟨#[]⟩),rfl,HG4.o,by rw [hr1.1,hr1.2];exact HM4.o,zsD _ _,by simp [ByteArray.size],fun h=>?_⟩
   rw [hr1.2] at h
   rw [hrd,if_pos h];rfl
   )
theorem zAS (q:Int) (h34:q=3∨q=4) (m:Nat) (v:Value) (l:Bs) (k:Nat) (w:World) (hM:Mdl w m v l k 0) (i:Nat) (px:Nat) (ps:ByteArray) (hpx:px < 18446744073709551616) (hps:ps.size<=256) (hi:i<=140737488351232)  :
  Calls prog 238 #[.pointer (some ⟨m,0,none⟩),.int .i64 q,.int .i64 (i:Int),cellV px ps] w (OneR w m v l q i (px,ps) k):=by
 have HQ:=h_ h34;have hz:(Hid (q=3)/\(q == 3)=true)∨(Hid (q=4)/\(q == 3)=false/\(q == 4)=true):=by rcases h34 with rfl | rfl;exact .inl ⟨h_ rfl,rfl⟩;exact .inr ⟨h_ rfl,rfl,rfl⟩
 clear h34;unfold cellV;have hml:=hM.lt;have HM2:=h_ (show Mdl ((w.alloc (.cells #[.int .u64 (px:Int),.string ps] 82)).alloc (.cells #[.int .u64 0,.string ⟨#[]⟩] 82)) m v l k 0 from hM.later (((Below.refl w.heap.size w).alloc l_ _).alloc (by rw [World.size_alloc];omega) _) l_);have HG2:=h_ (show w.grownBy ((w.alloc (.cells #[.int .u64 (px:Int),.string ps] 82)).alloc (.cells #[.int .u64 0,.string ⟨#[]⟩] 82)) (some m) from below_grown (((Below.refl w.heap.size w).alloc l_ _).alloc (by rw [World.size_alloc];omega) _) _);have HP2:=h_ (show ((w.alloc (.cells #[.int .u64 (px:Int),.string ps] 82)).alloc (.cells #[.int .u64 0,.string ⟨#[]⟩] 82)).heap[w.heap.size]?=some (.cells #[.int .u64 (px:Int),.string ps] 82 (0,0)) from (Below.heap_alloc _ _ _ (by rw [World.size_alloc];omega)).trans (heap_alloc_new _ _));have HR2:=h_ (show ((w.alloc (.cells #[.int .u64 (px:Int),.string ps] 82)).alloc (.cells #[.int .u64 0,.string ⟨#[]⟩] 82)).heap[w.heap.size + 1]?=some (.cells #[.int .u64 0,.string ⟨#[]⟩] 82 (0,0)) from by have:=heap_alloc_new (w.alloc (.cells #[.int .u64 (px:Int),.string ps] 82)) (.cells #[.int .u64 0,.string ⟨#[]⟩] 82);rw [World.size_alloc] at this;exact this);have HS2:=h_ (show w.heap.size + 2<=((w.alloc (.cells #[.int .u64 (px:Int),.string ps] 82)).alloc (.cells #[.int .u64 0,.string ⟨#[]⟩] 82)).heap.size from by rw [World.size_alloc,World.size_alloc];omega);obtain ⟨gp,hgp⟩:=nm_ w.heap.size;have HGP:=h_ (show m < gp by omega);have HGW:=h_ (show w.heap.size<=gp by omega);have HVB:=h_ (show ∀ j,j < l.length->(adr v j).block < gp from fun j hj=>by rw [hgp];exact hM.rd.block hj);clear hM;have hsz:ps.size=ps.data.toList.length:=(zeZ (s:=ps) (by omega)).size9;obtain ⟨pl,hpl⟩:=nm_ ps.data.toList;have HPS:=h_ (zeZ (s:=ps) (by omega));rw [<- hpl] at HPS hsz;have HPL:=h_ hpl;have p1:((w.alloc (.cells #[.int .u64 (px:Int),.string ps] 82)).alloc (.cells #[.int .u64 0,.string ⟨#[]⟩] 82)).cell? ⟨w.heap.size,1,none⟩=some (.string ps):=by rw [cell_of_row _ _ _ _ _ _ HP2.o];rfl
 have hlen:=HPS.len;clear hpl;rcases hz with ⟨H3,e3⟩ | ⟨H3,e3,e4⟩
 all_goals
  go_enter func238,ntmps238;go_wp2_with fail;generalize ((w.alloc (.cells #[.int .u64 (px:Int),.string ps] 82)).alloc (.cells #[.int .u64 0,.string ⟨#[]⟩] 82))=w2 at *;rw [<- hgp] at HP2 HR2 HS2 p1 ⊢;clear hgp;refine (zcF m v l k w2 HM2.o pl.length (by omega)).mono ?_;rintro e w3 ⟨rfl,hg3,hM3⟩;have hxl:(rdU l k pl.length).1<=pl.length:=by
   unfold rdU;split
   ·omega
   split <;> dsimp only <;> omega
  rcases hr:rdU l k pl.length with ⟨x,k3,x3⟩
  rw [hr] at hM3 hxl;dsimp only at hM3 hxl ⊢;have HU:=h_ hr;have HM3:=h_ hM3;have HG3:=h_ (HG2.trans hg3);have HP3:=h_ ((hg3.block gp (by have:=HS2.o;omega) (by intro e;injection e with e;have:=HGP.o;omega)).trans HP2.o);have HR3:=h_ ((hg3.block (gp + 1) (by have:=HS2.o;omega) (by intro e;injection e with e;have:=HGP.o;omega)).trans HR2.o);have HS3:=h_ (show gp + 2<=w3.heap.size by have:=HS2.o;have:=hg3.size;omega);clear hr hM3 hg3 HM2 HG2 HP2 HR2 HS2 p1 hlen;have hk3:k3<=l.length:=HM3.le;have hbl:=zAY (l:=l) (k:=k3) (most:=256 - (x:Int)) hk3 (by omega);go_wp2_with fail;refine (zyD m v l k3 x3 w3 HM3.o (256 - (x:Int)) (by omega)).mono ?_;rintro e w4 ⟨val,⟨rfl,hg4,hM4⟩,hown⟩;obtain ⟨bb,hbb⟩:=nm_ ((if x3=0 then (rdB l k3 (256 - (x:Int))).1 else []));obtain ⟨k4,hk4⟩:=nm_ ((if x3=0 then (rdB l k3 (256 - (x:Int))).2.1 else k3));obtain ⟨x4,hx4⟩:=nm_ ((if x3=0 then (rdB l k3 (256 - (x:Int))).2.2 else x3));rw [<- hbb] at hown;rw [<- hk4,<- hx4] at hM4;have hbl2:bb.length<=512:=by
   rw [hbb];split
   ·omega
   simp
  have hstr:=(hown.rd (by omega)).str;obtain ⟨s2,hs2⟩:∃ s:ByteArray,s=⟨bb.toArray⟩:=⟨_,rfl⟩;have hS2:RdS s2 bb:=⟨hs2,by omega⟩;rw [<- hs2] at hstr;have hz1:(ps.extract 0 x).size=x:=by rw [(HPS.takeS x).size9,List.length_take];omega
  have hz2:s2.size=bb.length:=hS2.size9;have hRT:RdS (ps.extract 0 x ++ s2) (pl.take x ++ bb):=(HPS.takeS x).app9 hS2 (by rw [List.length_take];omega);have hcat:¬ ((ps.extract 0 x).size + s2.size > 9223372036854775807):=by omega
  have HRT:=h_ hRT;have HBB:=h_ hbb;have HK4:=h_ hk4;have HX4:=h_ hx4;have HM4:=h_ hM4;have HG4:=h_ (HG3.trans hg4);have HP4:=h_ ((hg4.block gp (by have:=HS3.o;omega) (by intro e;injection e with e;have:=HGP.o;omega)).trans HP3.o);have HR4:=h_ ((hg4.block (gp + 1) (by have:=HS3.o;omega) (by intro e;injection e with e;have:=HGP.o;omega)).trans HR3.o);have HS4:=h_ (show gp + 2<=w4.heap.size by have:=HS3.o;have:=hg4.size;omega);have p4:w4.cell? ⟨gp,1,none⟩=some (.string ps):=by rw [cell_of_row _ _ _ _ _ _ HP4.o];rfl
  have HP5:=h_ (show (w4.alloc (.cells #[.int .u64 0,.string (ps.extract 0 x ++ s2)] 82)).heap[gp]?=some (.cells #[.int .u64 (px:Int),.string ps] 82 (0,0)) from (Below.heap_alloc _ _ _ (by have:=HS4.o;omega)).trans HP4.o);have HR5:=h_ (show (w4.alloc (.cells #[.int .u64 0,.string (ps.extract 0 x ++ s2)] 82)).heap[gp + 1]?=some (.cells #[.int .u64 0,.string ⟨#[]⟩] 82 (0,0)) from (Below.heap_alloc _ _ _ (by have:=HS4.o;omega)).trans HR4.o);have HQ5:=h_ (show (w4.alloc (.cells #[.int .u64 0,.string (ps.extract 0 x ++ s2)] 82)).heap[w4.heap.size]?=some (.cells #[.int .u64 0,.string (ps.extract 0 x ++ s2)] 82 (0,0)) from heap_alloc_new _ _);have HB5:=h_ (show Below w4.heap.size w4 (w4.alloc (.cells #[.int .u64 0,.string (ps.extract 0 x ++ s2)] 82)) from (Below.refl _ _).alloc l_ _);have HS5:=h_ (show gp + 1 < w4.heap.size/\w4.heap.size < (w4.alloc (.cells #[.int .u64 0,.string (ps.extract 0 x ++ s2)] 82)).heap.size from by have:=HS4.o;rw [World.size_alloc];omega);have HM5:=h_ (show Mdl (w4.alloc (.cells #[.int .u64 0,.string (ps.extract 0 x ++ s2)] 82)) m v l k4 x4 from HM4.later HB5.o l_);have HG5:=h_ (show w.grownBy (w4.alloc (.cells #[.int .u64 0,.string (ps.extract 0 x ++ s2)] 82)) (some m) from HG4.trans (below_grown HB5.o _));have p5:(w4.alloc (.cells #[.int .u64 0,.string (ps.extract 0 x ++ s2)] 82)).cell? ⟨gp,1,none⟩=some (.string ps):=by rw [cell_of_row _ _ _ _ _ _ HP5.o];rfl
  clear hg4 hM4 hown hbb hk4 hx4 hbl hs2 hS2 hRT hk3 HM3 HG3 HP3 HR3 HS3 HP4 HR4 HS4 HM4 HG4 HB5;go_wp2_with fail;generalize ps.extract 0 x ++ s2=T at *;generalize w4.alloc (.cells #[.int .u64 0,.string T] 82)=w5 at *;generalize w4.heap.size=gc at *;refine (zuP ps T pl (pl.take x ++ bb) w5 HPS.o HRT.o).mono ?_;rintro e w6 ⟨rfl,hb⟩;have HM6:=h_ (HM5.later hb l_);have HG6:=h_ (HG5.trans (below_grown hb _));have HR6:=h_ ((hb.block (gp + 1) (by have:=HS5.o;omega)).trans HR5.o);have HQ6:=h_ ((hb.block gc (by have:=HS5.o;omega)).trans HQ5.o);have HS6:=h_ (show gp + 1 < gc/\gc < w6.heap.size from by have:=HS5.o;have:=hb.size;omega);obtain ⟨N,hN⟩:=nm_ (shr pl (pl.take x ++ bb));rw [<- hN];have HN:=h_ hN;obtain ⟨okb,hok⟩:=nm_ (decide (N=x));have hqb:((N:Int) == (x:Int))=okb:=by
   rw [hok];by_cases h9:N=x
   ·rw [h9];simp
   rw [decide_eq_false h9,beq_eq_false_iff_ne];omega
  have HOK:=h_ hok;clear hb HM5 HG5 HP5 HR5 HQ5 HS5 p5 p4 hN hok hz1 hz2 hcat hstr;go_wp2_with fail;refine (zbQ m v l k4 x4 w6 HM6.o okb 6).mono ?_;rintro e w7 ⟨rfl,hg7,hM7⟩;obtain ⟨x7,hx7⟩:=nm_ ((if x4=0 then (if okb=true then 0 else 6) else x4));rw [<- hx7] at hM7;have HX7:=h_ hx7;have HM7:=h_ hM7;have HG7:=h_ (HG6.trans hg7);have HR7:=h_ ((hg7.block (gp + 1) (by have:=HS6.o;omega) (by intro e;injection e with e;have:=HGP.o;omega)).trans HR6.o);have HQ7:=h_ ((hg7.block gc (by have:=HS6.o;omega) (by intro e;injection e with e;have:=HGP.o;have:=HS6.o;omega)).trans HQ6.o);have HS7:=h_ (show gp + 1 < gc/\gc < w7.heap.size from by have:=HS6.o;have:=hg7.size;omega);clear hg7 hM7 hx7 HM6 HG6 HR6 HQ6 HS6
 focus
  go_wp2_with fail;refine (zbQ m v l k4 x7 w7 HM7.o true 11).mono ?_;rintro e w8 ⟨rfl,hg8,hM8⟩;obtain ⟨x8,hx8⟩:=nm_ ((if x7=0 then (if true=true then 0 else 11) else x7));rw [<- hx8] at hM8;have HX8:=h_ (show x8=(if x7=0 then (if q=4/\utf8 (pl.take x ++ bb)=false then 11 else 0) else x7) from by rw [hx8,if_pos rfl,if_neg (fun h:q=4/\_=>by have:=H3.o;omega)])
 rotate_left
 focus
  obtain ⟨ok2,hok2⟩:=nm_ (utf8 (pl.take x ++ bb));have HUt:=h_ (ziF T (pl.take x ++ bb) w7 HRT.o);rw [<- hok2] at HUt;have HOK2:=h_ hok2;have u1:w7.cell? ⟨gc,1,none⟩=some (.string T):=by rw [cell_of_row _ _ _ _ _ _ HQ7.o];rfl
  clear hok2;go_wp2_with fail;refine HUt.mono ?_;rintro e w8 ⟨rfl,rfl⟩;go_wp2_with fail;refine (zbQ m v l k4 x7 w7 HM7.o ok2 11).mono ?_;rintro e w8 ⟨rfl,hg8,hM8⟩;obtain ⟨x8,hx8⟩:=nm_ ((if x7=0 then (if ok2=true then 0 else 11) else x7));rw [<- hx8] at hM8;have HX8:=h_ (show x8=(if x7=0 then (if q=4/\utf8 (pl.take x ++ bb)=false then 11 else 0) else x7) from by rw [hx8,HOK2.o];simp [H3.o];cases utf8 (pl.take x ++ bb) <;> rfl)
 all_goals
  have HM8:=h_ hM8;have HG8:=h_ (HG7.trans hg8);have HR8:=h_ ((hg8.block (gp + 1) (by have:=HS7.o;omega) (by intro e;injection e with e;have:=HGP.o;omega)).trans HR7.o);have HQ8:=h_ ((hg8.block gc (by have:=HS7.o;omega) (by intro e;injection e with e;have:=HGP.o;have:=HS7.o;omega)).trans HQ7.o);have HS8:=h_ (show gp + 1 < gc/\gc < w8.heap.size from by have:=HS7.o;have:=hg8.size;omega);clear hg8 hM8 hx8 HM7 HG7 HR7 HQ7 HS7;have HR3:=HR8;have HM3:=HM8;have HG3:=HG8;have HV3:=h_ (show ∀ j,j < l.length->(adr v j).block≠gp + 1 from fun j hj e=>by have h1:=HVB.o j hj;omega);have g0:w8.cell? ⟨gc,0,none⟩=some (.int .u64 0):=by rw [cell_of_row _ _ _ _ _ _ HQ8.o];rfl
  have g1:w8.cell? ⟨gc,1,none⟩=some (.string T):=by rw [cell_of_row _ _ _ _ _ _ HQ8.o];rfl
  clear HR8 HM8 HG8;have c0:w8.cell? ⟨gp + 1,0,none⟩=some (.int .u64 0):=by rw [cell_of_row _ _ _ _ _ _ HR3.o];rfl
  have f0:w8.frozen? ⟨gp + 1,0,none⟩=false:=frozen_of_row _ _ _ _ _ HR3.o;have c1:(w8.setCell ⟨gp + 1,0,none⟩ (.int .u64 (0:Int))).cell? ⟨gp + 1,1,none⟩=some (.string ⟨#[]⟩):=by rw [cell_of_row _ _ _ _ _ _ (block_setCell HR3.o _)];rfl
  have f1:(w8.setCell ⟨gp + 1,0,none⟩ (.int .u64 (0:Int))).frozen? ⟨gp + 1,1,none⟩=false:=frozen_of_row _ _ _ _ _ (block_setCell HR3.o _);have e0:((w8.setCell ⟨gp + 1,0,none⟩ (.int .u64 (0:Int))).setCell ⟨gp + 1,1,none⟩ (.string T)).cell? ⟨gp + 1,0,none⟩=some (.int .u64 (0:Int)):=by rw [cell_of_row _ _ _ _ _ _ (block_setCell (block_setCell HR3.o _) _)];rfl
  have e1:((w8.setCell ⟨gp + 1,0,none⟩ (.int .u64 (0:Int))).setCell ⟨gp + 1,1,none⟩ (.string T)).cell? ⟨gp + 1,1,none⟩=some (.string T):=by rw [cell_of_row _ _ _ _ _ _ (block_setCell (block_setCell HR3.o _) _)];rfl
  have HM4:=h_ (show Mdl ((w8.setCell ⟨gp + 1,0,none⟩ (.int .u64 (0:Int))).setCell ⟨gp + 1,1,none⟩ (.string T)) m v l k4 x8 from by
   have hgv:w8.grownBy ((w8.setCell ⟨gp + 1,0,none⟩ (.int .u64 (0:Int))).setCell ⟨gp + 1,1,none⟩ (.string T)) (some (gp + 1)):=za2 (za2 (World.grownBy.refl _ _) _) _
   refine HM3.same (hgv.block m HM3.lt (by intro e;injection e with e;have:=HGP.o;omega)) fun j hj=>hgv.block _ (HM3.rd.block hj) (fun e=>?_)
   injection e with e
   exact HV3.o j hj e)
  have HG4:=h_ (show w.grownBy ((w8.setCell ⟨gp + 1,0,none⟩ (.int .u64 (0:Int))).setCell ⟨gp + 1,1,none⟩ (.string T)) (some m) from HG3.sets (by have:=HGW.o;omega) _ _ _ _);clear HR3 HM3 HG3;go_wp2;generalize ((w8.setCell ⟨gp + 1,0,none⟩ (.int .u64 (0:Int))).setCell ⟨gp + 1,1,none⟩ (.string T))=w9 at *;refine bodyPost_ret (by simp [results,results238,go_sem,e0,e1];try rfl) rfl ?_;have hall:=@zF8 l q i k x k3 x3 k4 x4 x7 x8 (ceL (px,ps)) bb HQ.o (by rw [show (ceL (px,ps)).2=pl from HPL.symm];exact HU.o) HBB.o HK4.o HX4.o (by rw [HX7.o,HOK.o,HN.o,show (ceL (px,ps)).2=pl from HPL.symm];simp) (by rw [show (ceL (px,ps)).2=pl from HPL.symm];exact HX8.o);rw [show (ceL (px,ps)).2=pl from HPL.symm] at hall;obtain ⟨a1,a2,a3⟩:=hall;refine ⟨(0,T),rfl,HG4.o,by rw [a1,a2];exact HM4.o,by show 0 < 18446744073709551616;decide,?_,fun h=>?_⟩
  ·have e:=HRT.size9;rw [e,List.length_append,List.length_take];omega
  rw [a2] at h;rw [a3 h];exact Prod.ext rfl (by show T.data.toList=_;rw [HRT.eq])
theorem zDE (m:Nat) (v:Value) (l:Bs) (k:Nat) (w:World) (hM:Mdl w m v l k 0) (kind:Int) (hk:0<=kind/\kind<=5) (i:Nat) (p:CellB) (hp:Fit kind (ceL p)) (h2:kind≠2) (hi:i<=140737488351232) :
  Calls prog 238 #[.pointer (some ⟨m,0,none⟩),.int .i64 kind,.int .i64 (i:Int),cellV p.1 p.2] w (OneR w m v l kind i p k):=by
 obtain ⟨px,ps⟩:=p;have hpx:px < 18446744073709551616:=hp.lt;have hps:ps.size<=256:=by
  by_cases ht:kind=3∨kind=4
  ·have:=(hp.text ht).2.1;simpa [ceL] using this
  have:=(hp.num ht).1;have e:ps.data.toList.length=0:=by
   have e9:ps.data.toList=[]:=this;rw [e9];rfl
  have:ps.size=0:=by simpa using e
  omega
 by_cases h3:kind=3∨kind=4
 ·exact zAS kind h3 m v l k w hM i px ps hpx hps hi
 by_cases h0:i=0/\kind≠0
 ·exact zAR m v l k w hM kind i px ps hpx hps hi h0.1 h0.2 (fun h=>h3 (.inl h)) (fun h=>h3 (.inr h))
 exact zxA m v l k w hM kind i px ps hpx hps hi h0 (fun h=>h3 (.inl h)) (fun h=>h3 (.inr h))
/- -/
def TakeR (w:World) (m:Nat) (v:Value) (l:Bs) (kind n:Int) (k:Nat) (e:Ending) (w':World):Prop :=
 ∃ tv,e=.returned tv/\w.grownBy w' (some m)/\Mdl w' m v l (rdK l kind n k).2.1 (rdK l kind n k).2.2/\∃ cs:List CellB,OwnE w' w.heap.size tv cs/\CES cs/\cs.length<=n.toNat/\((rdK l kind n k).2.2=0->cesL cs=(rdK l kind n k).1)
theorem zBL {kind:Int} (hk:0<=kind/\kind<=5):Fit kind (0,[]):=by
 refine ⟨?_,by decide⟩;by_cases ht:kind=3∨kind=4
 ·exact zfK ht (by simp) (fun _=>ziB)
 exact zdE hk ht (fun _=>by decide)
theorem zpA (cs:List CellB) (c:CellB):lstB (cs ++ [c]) (cs.length + 1)=c:=by
 unfold lstB;rw [if_neg (by omega),Nat.add_sub_cancel];simp [List.getD]
theorem zkF (cs:List CellB) (c:CellB):cesL (cs ++ [c])=cesL cs ++ [ceL c]:=by unfold cesL;simp
def lenV:Value->Nat
 | .slice _ n _=>n
 | _=>0
theorem OwnE.lenV {w:World} {base:Nat} {v:Value} {cs:List CellB} (h:OwnE w base v cs):lenV v=cs.length:=by
 rcases h.1.2 with ⟨rfl,hn⟩ | ⟨g,cap,cur,rfl,_⟩
 ·rw [List.length_map] at hn;exact hn.symm
 show (cs.map cellVs).length=_;rw [List.length_map]
theorem zxD (m:Nat) (v:Value) (l:Bs) (k:Nat) (w:World) (hM:Mdl w m v l k 0) (kind:Int) (hk:0<=kind/\kind<=5) (h2:kind≠2) (n:Nat) (hn:n<=1024) :
  Calls prog 201 #[.pointer (some ⟨m,0,none⟩),.int .i64 kind,.int .i64 (n:Int)] w (TakeR w m v l kind n k):=by
 have hml:=hM.lt;have d1:decide (kind ≥ 0)=true:=decide_eq_true hk.1;have d2:decide (kind<=5)=true:=decide_eq_true hk.2;have d3:decide ((n:Int) ≥ 0)=true:=decide_eq_true (by omega);have d4:decide ((n:Int)<=1024)=true:=decide_eq_true (by omega);have q2:(kind == 2)=false:=by rw [beq_eq_false_iff_ne];exact h2
 have HRD:=h_ (show rdK l kind n k=rdN l kind n (0,[]) [] k by
  unfold rdK;rw [if_neg (by omega),if_neg (by omega),if_neg h2,Int.toNat_natCast])
 have HK:=h_ hk;have H2:=h_ h2;have HML:=h_ hml;obtain ⟨R,hR⟩:=nm_ (rdK l kind n k);have HRR:=h_ hR;rw [<- hR] at HRD;have HVB0:=h_ (fun q (hq:q < l.length)=>hM.rd.block hq);have HM:=h_ hM;clear hk h2 hM hR hml;go_enter func201,ntmps201;go_wp2_with fail;refine (zcG m v l k w HM.o true 10).mono ?_;rintro e w1 ⟨rfl,hg1,hM1⟩;go_wp2_with fail;refine (zcG m v l k w1 hM1 true 3).mono ?_;rintro e w2 ⟨rfl,hg2,hM2⟩;have HG2:=h_ (hg1.trans hg2);have HM2:=h_ (show Mdl w2 m v l k 0 from hM2);have hs2:w.heap.size<=w2.heap.size:=(hg1.trans hg2).size;have HS2:=h_ hs2;clear hg1 hg2 hM1 hM2 hs2 HM;have HB3:=h_ (show Below w2.heap.size w2 (w2.alloc (.cells #[.int .u64 0,.string ⟨#[]⟩] 82)) from (Below.refl _ _).alloc l_ _);have HG3:=h_ (HG2.trans (below_grown HB3.o (some m)));have HM3:=h_ (HM2.later HB3.o l_);have HR3:=h_ (show (w2.alloc (.cells #[.int .u64 0,.string ⟨#[]⟩] 82)).heap[w2.heap.size]?=some (.cells #[.int .u64 0,.string ⟨#[]⟩] 82 (0,0)) from heap_alloc_new _ _);have HS3:=h_ (show w.heap.size<=w2.heap.size/\w2.heap.size + 1<=(w2.alloc (.cells #[.int .u64 0,.string ⟨#[]⟩] 82)).heap.size from ⟨HS2.o,by rw [World.size_alloc];omega⟩);go_wp2;generalize w2.alloc (.cells #[.int .u64 0,.string ⟨#[]⟩] 82)=w3 at *;generalize w2.heap.size=gb at *;have HVB:=h_ (show ∀ q,q < l.length->(adr v q).block < gb from fun q hq=>by have:=HVB0.o q hq;have:=HS3.o;omega);clear HB3 HG2 HM2 HS2 HVB0
 go_loopw [7] (fun a wr=>∃ (cs:List CellB) (x k':Nat),Hid (cs.length<=n)/\Hid (OwnE wr (gb + 1) a cs)/\Hid (CES cs)/\Hid (Mdl wr m v l k' x)/\Hid (w.grownBy wr (some m))/\Hid (wr.heap[gb]?=some (.cells #[.int .u64 ((lstB cs cs.length).1:Int),.string (lstB cs cs.length).2] 82 (0,0)))/\Hid (gb + 1<=wr.heap.size) /\
  Hid (x=0->Fit kind (ceL (lstB cs cs.length))/\R=rdN l kind (n - cs.length) (ceL (lstB cs cs.length)) (cesL cs) k')/\Hid (x≠0->R.2.1=k'/\R.2.2=x)) (fun a wr=>n - lenV a)
 case atStart =>
  refine ⟨[],0,k,h_ (by simp),h_ (OwnE.nil _ _),h_ (fun c hc=>absurd hc (by simp)),HM3,HG3,HR3,h_ HS3.2,h_ (fun _=>⟨zBL HK.o,?_⟩),h_ (fun h=>absurd rfl h)⟩;rw [HRD.o];rfl
 obtain ⟨cs,x,k',HL,HO,HC,HM,HG,HR,HS,HI,HJ⟩:=hrel;clear HM3 HG3 HR3;have hlen:=(HO.rd (by have:=HL.o;omega)).len;have c2:=HM.cell2;obtain ⟨j,hj⟩:=nm_ cs.length;rw [<- hj] at hlen;have HJ0:=h_ hj;have hjn:j<=n:=by rw [hj];exact HL.o
 clear hj;by_cases hlt:j < n
 ·by_cases hx:x=0
  ·subst hx;have c2:wr.cell? ⟨m,2,none⟩=some (.int .i64 0):=c2;obtain ⟨i1,i2⟩:=HI.o rfl;rcases hp:lstB cs cs.length with ⟨px,ps⟩
   rw [hp] at i1 i2 HR;have b0:wr.cell? ⟨gb,0,none⟩=some (.int .u64 (px:Int)):=(by rw [cell_of_row _ _ _ _ _ _ HR.o];rfl);have b1:wr.cell? ⟨gb,1,none⟩=some (.string ps):=(by rw [cell_of_row _ _ _ _ _ _ HR.o];rfl);have ON:=h_ (zDE m v l k' wr HM.o kind HK.o j (px,ps) i1 H2.o (by omega));unfold cellV at ON;have HI2:=h_ i2;have HKL:=h_ HM.le;clear hp i1 i2 HI HJ;go_wp2_with fail;refine ON.mono ?_;rintro e w5 ⟨⟨cx,cs2⟩,rfl,hg5,hM5,hc1,hc2,hc3⟩;unfold cellV;dsimp only at hc1 hc2 hc3;have hr5:=(hg5.block gb (by have:=HS.o;omega) (by intro e;injection e with e;have:=HML.o;have:=HS3.o;omega)).trans HR.o;have HO5:=h_ (HO.grown hg5 (fun q hq=>by have:=(OwnE.lt HO.o hq).1;have:=HML.o;have:=HS3.o;intro e;injection e with e;omega));have HG5:=h_ (HG.trans hg5);have s0:w5.cell? ⟨gb,0,none⟩=some (.int .u64 (px:Int)):=(by rw [cell_of_row _ _ _ _ _ _ hr5];rfl);have f0:w5.frozen? ⟨gb,0,none⟩=false:=frozen_of_row _ _ _ _ _ hr5;have s1:(w5.setCell ⟨gb,0,none⟩ (.int .u64 (cx:Int))).cell? ⟨gb,1,none⟩=some (.string ps):=(by rw [cell_of_row _ _ _ _ _ _ (block_setCell hr5 _)];rfl);have f1:(w5.setCell ⟨gb,0,none⟩ (.int .u64 (cx:Int))).frozen? ⟨gb,1,none⟩=false:=frozen_of_row _ _ _ _ _ (block_setCell hr5 _);have hr6:((w5.setCell ⟨gb,0,none⟩ (.int .u64 (cx:Int))).setCell ⟨gb,1,none⟩ (.string cs2)).heap[gb]?=some (.cells #[.int .u64 (cx:Int),.string cs2] 82 (0,0)):=block_setCell (block_setCell hr5 _) _;have t0:((w5.setCell ⟨gb,0,none⟩ (.int .u64 (cx:Int))).setCell ⟨gb,1,none⟩ (.string cs2)).cell? ⟨gb,0,none⟩=some (.int .u64 (cx:Int)):=(by rw [cell_of_row _ _ _ _ _ _ hr6];rfl);have t1:((w5.setCell ⟨gb,0,none⟩ (.int .u64 (cx:Int))).setCell ⟨gb,1,none⟩ (.string cs2)).cell? ⟨gb,1,none⟩=some (.string cs2):=(by rw [cell_of_row _ _ _ _ _ _ hr6];rfl);have hgv:w5.grownBy ((w5.setCell ⟨gb,0,none⟩ (.int .u64 (cx:Int))).setCell ⟨gb,1,none⟩ (.string cs2)) (some gb):=za2 (za2 (World.grownBy.refl _ _) _) _;have HS6:=h_ (show gb + 1<=((w5.setCell ⟨gb,0,none⟩ (.int .u64 (cx:Int))).setCell ⟨gb,1,none⟩ (.string cs2)).heap.size by rw [World.size_setCell,World.size_setCell];have:=HS.o;have:=hg5.size;omega);have HM6:=h_ (hM5.same (hgv.block m hM5.lt (by intro e;injection e with e;have:=HML.o;have:=HS3.o;omega)) fun q hq=>hgv.block _ (hM5.rd.block hq) (fun e=>by injection e with e;have:=HVB.o q hq;omega));have HG6:=h_ (HG5.sets (g:=gb) (by have:=HS3.o;omega) 0 1 (.int .u64 (cx:Int)) (.string cs2));have HO6:=h_ (HO5.grown hgv (fun q hq=>by have:=(OwnE.lt HO5.o hq).1;intro e;injection e with e;omega));have HR6:=h_ hr6;have HC5:=h_ hc3;have hc1':cx < 18446744073709551616:=hc1;have HCx:=h_ (show ceS (cx,cs2) from ⟨hc1,by dsimp only;omega⟩);clear hr5 hr6 hgv hg5 hM5 hc3 HO5 HG5 HR HM HG HS ON hc1 hc2 b0 b1 c2;have HA:=h_ (show Below (gb + 1) (((w5.setCell ⟨gb,0,none⟩ (.int .u64 (cx:Int))).setCell ⟨gb,1,none⟩ (.string cs2)).alloc (.cells #[.int .u64 (cx:Int),.string cs2] 82)) (((w5.setCell ⟨gb,0,none⟩ (.int .u64 (cx:Int))).setCell ⟨gb,1,none⟩ (.string cs2)).alloc (.cells #[.int .u64 (cx:Int),.string cs2] 82)) from Below.refl _ _);have HB6:=h_ (show Below (gb + 1) ((w5.setCell ⟨gb,0,none⟩ (.int .u64 (cx:Int))).setCell ⟨gb,1,none⟩ (.string cs2)) (((w5.setCell ⟨gb,0,none⟩ (.int .u64 (cx:Int))).setCell ⟨gb,1,none⟩ (.string cs2)).alloc (.cells #[.int .u64 (cx:Int),.string cs2] 82)) from (Below.refl _ _).alloc HS6.o _);go_wp2_with (with_reducible refine zcK (gb + 1) _ ?hs (HO6.o.alloc _) _ (cx,cs2) ?hx (zcM _ (cx,cs2)) ?hn ?hbase (gb + 1) (((w5.setCell ⟨gb,0,none⟩ (.int .u64 (cx:Int))).setCell ⟨gb,1,none⟩ (.string cs2)).alloc (.cells #[.int .u64 (cx:Int),.string cs2] 82)) HA.o l_ ?_)
   case hs=>rfl
   case hx=>show _=Value.slice (some ⟨((w5.setCell ⟨gb,0,none⟩ (.int .u64 (cx:Int))).setCell ⟨gb,1,none⟩ (.string cs2)).heap.size,0,none⟩) 1 1;rw [World.size_setCell,World.size_setCell];rfl
   case hn=>rw [<- HJ0.o];omega
   case hbase=>rw [World.size_alloc];have:=HS6.o;omega
   intro v8 w8 hO8 hB8 hg8;have hB9:=HB6.trans hB8;have HO8:=h_ hO8;have HM8:=h_ (HM6.same (hB9.block m (by have:=HML.o;have:=HS3.o;omega)) fun q hq=>hB9.block _ (by have:=HVB.o q hq;omega));have HG8:=h_ (show w.grownBy w8 (some m) from ⟨hB9.os.trans HG6.os,hB9.tape.trans HG6.tape,hB9.output.trans HG6.output,Nat.le_trans HG6.size hB9.size,fun q h1 h2=>(hB9.block q (by have:=HS3.o;omega)).trans (HG6.block q h1 h2)⟩)
   have HR8:=h_ (show w8.heap[gb]?=some (.cells #[.int .u64 ((lstB (cs ++ [(cx,cs2)]) (cs ++ [(cx,cs2)]).length).1:Int),.string (lstB (cs ++ [(cx,cs2)]) (cs ++ [(cx,cs2)]).length).2] 82 (0,0)) from by
    rw [List.length_append,List.length_singleton,zpA];exact (hB9.block gb (by omega)).trans HR6.o)
   have HS8:=h_ (show gb + 1<=w8.heap.size from Nat.le_trans HS6.o hB9.size);have HL8:=h_ (show (cs ++ [(cx,cs2)]).length<=n by rw [List.length_append,List.length_singleton,<- HJ0.o];omega)
   have HC8:=h_ (show CES (cs ++ [(cx,cs2)]) from fun c hc=>by
    rcases List.mem_append.1 hc with hc | hc
    ·exact HC.o c hc
    ·rw [List.mem_singleton.1 hc];exact HCx.o)
   have hrd:=HI2.o;rw [show n - cs.length=(n - (cs ++ [(cx,cs2)]).length) + 1 from by rw [List.length_append,List.length_singleton,<- HJ0.o];omega,rdN,za8,<- HJ0.o] at hrd
   have HI8:=h_ (show (rd1 l kind j (ceL (px,ps)) k').2.2=0->Fit kind (ceL (lstB (cs ++ [(cx,cs2)]) (cs ++ [(cx,cs2)]).length))/\R=rdN l kind (n - (cs ++ [(cx,cs2)]).length) (ceL (lstB (cs ++ [(cx,cs2)]) (cs ++ [(cx,cs2)]).length)) (cesL (cs ++ [(cx,cs2)])) (rd1 l kind j (ceL (px,ps)) k').2.1 from fun h=>by
    have e:=HC5.o h
    rw [if_neg (fun hh=>hh h),<- e] at hrd
    rw [List.length_append,List.length_singleton,zpA,zkF]
    rw [List.length_append,List.length_singleton] at hrd
    refine ⟨?_,hrd⟩
    rw [e]
    exact (zxT HKL.o HK.o H2.o h).2.2)
   have HJ8:=h_ (show (rd1 l kind j (ceL (px,ps)) k').2.2≠0->R.2.1=(rd1 l kind j (ceL (px,ps)) k').2.1/\R.2.2=(rd1 l kind j (ceL (px,ps)) k').2.2 from fun h=>by
    rw [if_pos h] at hrd
    rw [hrd];exact ⟨rfl,rfl⟩)
   have HLv:=h_ (OwnE.lenV hO8);have HLu:=h_ (OwnE.lenV HO.o);clear hO8 hB8 hg8 hB9 hrd HA HB6 s0 s1 f0 f1 t0 t1 HO6 HM6 HG6 HR6 HS6;go_wp2;go_roundw
   case rel=>exact ⟨cs ++ [(cx,cs2)],_,_,HL8,HO8,HC8,HM8,HG8,HR8,HS8,HI8,HJ8⟩
   have h1:=HLv.o;have h2:=HLu.o;have h3:=HJ0.o;rw [List.length_append,List.length_singleton] at h1;omega
  have hq:((x:Int) == 0)=false:=by rw [beq_eq_false_iff_ne];omega
  have HX:=h_ hx;obtain ⟨r1,r2⟩:=HJ.o hx;have HF:=h_ (show TakeR w m v l kind n k (.returned u7) wr from ⟨u7,rfl,HG.o,by rw [<- HRR.o,r1,r2];exact HM.o,cs,OwnE.lower HO.o (by have:=HS3.o;omega),HC.o,by rw [Int.toNat_natCast];exact HL.o,fun h=>by rw [<- HRR.o,r2] at h;exact absurd h HX.o⟩);clear r1 r2 hx;go_wp2;go_ret;exact HF.o
 have hjl:cs.length=n:=by rw [<- HJ0.o];omega
 have HF:=h_ (show TakeR w m v l kind n k (.returned u7) wr from by
  by_cases hx:x=0
  ·subst hx
   have e:=(HI.o rfl).2
   rw [hjl,Nat.sub_self,rdN] at e
   refine ⟨u7,rfl,HG.o,by rw [<- HRR.o,e];exact HM.o,cs,OwnE.lower HO.o (by have:=HS3.o;omega),HC.o,by rw [Int.toNat_natCast];exact HL.o,fun _=>by rw [<- HRR.o,e]⟩
  ·obtain ⟨r1,r2⟩:=HJ.o hx
   exact ⟨u7,rfl,HG.o,by rw [<- HRR.o,r1,r2];exact HM.o,cs,OwnE.lower HO.o (by have:=HS3.o;omega),HC.o,by rw [Int.toNat_natCast];exact HL.o,fun h=>by rw [<- HRR.o,r2] at h;exact absurd h hx⟩)
 clear hjl;go_wp2;go_ret;exact HF.o
/- -/
theorem zC6 (c m s:Nat):((c / 2 ^ m) % 2 ^ (s + 1)=0) ↔ ((c / 2 ^ m) % 2 ^ s=0/\c / 2 ^ (m + s) % 2=0):=by
 have h1:c / 2 ^ (m + s)=c / 2 ^ m / 2 ^ s:=by rw [Nat.pow_add,Nat.div_div_eq_div_mul]
 rw [h1,Nat.mod_pow_succ];generalize c / 2 ^ m / 2 ^ s % 2=b;generalize c / 2 ^ m % 2 ^ s=a;have hp:=Nat.two_pow_pos s;constructor
 ·intro h;have h2:2 ^ s * b=0:=by omega
  refine ⟨by omega,?_⟩;rcases Nat.mul_eq_zero.1 h2 with h3 | h3
  ·omega
  exact h3
 rintro ⟨h2,h3⟩;rw [h2,h3];simp
theorem zxE (m:Nat) (v:Value) (l:Bs) (k:Nat) (w:World) (hM:Mdl w m v l k 0) (n:Nat) (hn:n<=1024) :
  Calls prog 201 #[.pointer (some ⟨m,0,none⟩),.int .i64 2,.int .i64 (n:Int)] w (TakeR w m v l 2 n k):=by
 have hml:=hM.lt;have d3:decide ((n:Int) ≥ 0)=true:=decide_eq_true (by omega);have d4:decide ((n:Int)<=1024)=true:=decide_eq_true (by omega)
 have HRD:=h_ (show rdK l 2 n k=rdQ l ((n + 7) / 8) n [] k by
  unfold rdK;rw [if_neg (by omega),if_neg (by omega),if_pos rfl,Int.toNat_natCast])
 have HML:=h_ hml;obtain ⟨R,hR⟩:=nm_ (rdK l 2 n k);have HRR:=h_ hR;rw [<- hR] at HRD;have HVB0:=h_ (fun q (hq:q < l.length)=>hM.rd.block hq);have HM:=h_ hM;clear hM hR hml;go_enter func201,ntmps201;go_wp2_with fail;refine (zcG m v l k w HM.o true 10).mono ?_;rintro e w1 ⟨rfl,hg1,hM1⟩;go_wp2_with fail;refine (zcG m v l k w1 hM1 true 3).mono ?_;rintro e w2 ⟨rfl,hg2,hM2⟩;have HG2:=h_ (hg1.trans hg2);have HM2:=h_ (show Mdl w2 m v l k 0 from hM2);have HS2:=h_ (hg1.trans hg2).size;clear hg1 hg2 hM1 hM2 HM;have HB3:=h_ (show Below w2.heap.size w2 (w2.alloc (.cells #[.int .u64 0,.string ⟨#[]⟩] 82)) from (Below.refl _ _).alloc l_ _);have HG3:=h_ (HG2.trans (below_grown HB3.o (some m)));have HM3:=h_ (HM2.later HB3.o l_);have HS3:=h_ (show w.heap.size<=w2.heap.size/\w2.heap.size + 1<=(w2.alloc (.cells #[.int .u64 0,.string ⟨#[]⟩] 82)).heap.size from ⟨HS2.o,by rw [World.size_alloc];omega⟩);go_wp2;generalize w2.alloc (.cells #[.int .u64 0,.string ⟨#[]⟩] 82)=w3 at *;generalize w2.heap.size=gb at *;have HVB:=h_ (show ∀ q,q < l.length->(adr v q).block < gb from fun q hq=>by have:=HVB0.o q hq;have:=HS3.o;omega);clear HB3 HG2 HM2 HS2 HVB0
 go_loopw [7] (fun a wr=>∃ (cs:List CellB) (x k':Nat),Hid (cs.length<=n)/\Hid (OwnE wr (gb + 1) a cs)/\Hid (CES cs)/\Hid (Mdl wr m v l k' x)/\Hid (w.grownBy wr (some m))/\Hid (gb + 1<=wr.heap.size) /\
  Hid (x=0->(cs.length % 8=0∨cs.length=n)/\R=rdQ l ((n - cs.length + 7) / 8) (n - cs.length) (cesL cs) k')/\Hid (x≠0->R.2.1=k'/\R.2.2=x)) (fun a wr=>n - lenV a)
 case atStart =>
  refine ⟨[],0,k,h_ (by simp),h_ (OwnE.nil _ _),h_ CES.nil,HM3,HG3,h_ HS3.2,h_ (fun _=>⟨.inl rfl,?_⟩),h_ (fun h=>absurd rfl h)⟩;rw [HRD.o];rfl
 obtain ⟨cs,x,k',HL,HO,HC,HM,HG,HS,HI,HJ⟩:=hrel;clear HM3 HG3;have hlen:=(HO.rd (by have:=HL.o;omega)).len;have c2:=HM.cell2;obtain ⟨j,hj⟩:=nm_ cs.length;rw [<- hj] at hlen;have HJ0:=h_ hj;have hjn:j<=n:=by rw [hj];exact HL.o
 clear hj;by_cases hlt:j < n
 ·by_cases hx:x=0
  ·subst hx;have c2:wr.cell? ⟨m,2,none⟩=some (.int .i64 0):=c2;obtain ⟨i1,i2⟩:=HI.o rfl;rw [<- HJ0.o] at i1 i2;have h8:j % 8=0:=(by omega);have HJ8:=h_ h8;obtain ⟨M,hM⟩:=nm_ (min 8 (n - j):Nat);rw [show (n - j + 7) / 8=(n - j - 1) / 8 + 1 from by omega,rdQ,<- hM] at i2;have hm1:M<=8:=(by omega);have hm2:j + M<=n:=(by omega);have HM3:=h_ (show (j + M) % 8=0∨j + M=n by omega);have HM4:=h_ (show (n - j - 1) / 8=(n - (j + M) + 7) / 8 by omega);have HM5:=h_ (show 0 < M/\(M < 8->j + M=n) by omega);obtain ⟨B,hB⟩:=nm_ ((if k' < l.length then ((l.getD k' 0).toNat,k' + 1,0) else (0,k',5)):Nat × Nat × Nat)
   have CB:=h_ (show Calls prog 198 #[.pointer (some ⟨m,0,none⟩)] wr (Does wr m v l (.int .u8 (B.1:Int)) B.2.1 B.2.2) from by
    have:=ztB m v l k' 0 wr HM.o
    simp only [if_true] at this
    rw [hB]
    by_cases h:k' < l.length
    ·simp only [if_pos h] at this ⊢;exact this
    ·simp only [if_neg h] at this ⊢;exact this)
   obtain ⟨c,k1,xB⟩:=B;dsimp only at CB;have hcl:c<=255:=by
    by_cases h:k' < l.length
    ·rw [if_pos h] at hB;injection hB with e1 e2
     have:=zcZ l k';unfold at8 at this;omega
    rw [if_neg h] at hB;injection hB with e1 e2
    omega
   have HFin:=h_ (show ∀ xF ct,xF=(if xB≠0 then xB else if (c / 2 ^ M) % 2 ^ (8 - M)=0 then 0 else 6)->(xB=0->cesL ct=cesL cs ++ zbT (zbM M c))->(xF=0->R=rdQ l ((n - (j + M) + 7) / 8) (n - (j + M)) (cesL ct) k1)/\(xF≠0->R.2.1=k1/\R.2.2=xF) from by
    intro xF ct hF hct
    by_cases h:k' < l.length
    ·rw [if_pos h] at hB
     injection hB with e1 e2
     injection e2 with e2 e3
     subst e3
     have hct:=hct rfl
     rw [if_neg (by simp)] at hF
     rw [if_neg (by omega),<- e1] at i2
     have hsm:c / 2 ^ M % 2 ^ (8 - M)=c / 2 ^ M:=by
      apply Nat.mod_eq_of_lt
      rw [Nat.div_lt_iff_lt_mul (Nat.two_pow_pos _),<- Nat.pow_add,show 8 - M + M=8 from by omega]
      omega
     rw [hsm] at hF
     by_cases h0:c / 2 ^ M=0
     ·rw [if_pos h0] at hF
      rw [if_neg (fun h=>h h0)] at i2
      refine ⟨fun _=>?_,fun h=>absurd hF h⟩
      rw [i2,hct,e2,HM4.o,show n - j - M=n - (j + M) from by omega]
     ·rw [if_neg h0] at hF
      rw [if_pos h0] at i2
      refine ⟨fun h=>by omega,fun _=>?_⟩
      rw [i2,e2,hF];exact ⟨rfl,rfl⟩
    ·rw [if_neg h] at hB
     injection hB with e1 e2
     injection e2 with e2 e3
     subst e3
     rw [if_pos (by decide)] at hF
     rw [if_pos (by omega)] at i2
     refine ⟨fun h=>by omega,fun _=>?_⟩
     rw [i2,e2,hF];exact ⟨rfl,rfl⟩)
   have HLu:=h_ (OwnE.lenV HO.o);clear hB i1 i2 HI HJ hM h8;go_wp2_with fail;refine CB.mono ?_;rintro e w5 ⟨rfl,hg5,hM5⟩;have HO5:=h_ (HO.grown hg5 (fun q hq=>by have:=(OwnE.lt HO.o hq).1;have:=HML.o;have:=HS3.o;intro e;injection e with e;omega));have HG5:=h_ (HG.trans hg5);have HS5:=h_ (Nat.le_trans HS.o hg5.size);have HM5':=h_ hM5;clear hg5 hM5 CB HO HG HS HM c2 hlen;go_wp2;go_loopw [7,9,10] (fun b a i wi=>∃ (t d xi:Nat) (ct:List CellB),t<=8/\i=.int .i64 t/\a=.int .u8 (d:Int)/\d<=255/\Hid (d=c / 2 ^ t)/\Hid (ct.length=j + min t M)/\Hid (xB=0->cesL ct=cesL cs ++ zbT (zbM (min t M) c))/\Hid (OwnE wi (gb + 1) b ct)/\Hid (CES ct)/\Hid (Mdl wi m v l k1 xi)/\Hid (w.grownBy wi (some m))/\Hid (gb + 1<=wi.heap.size)/\Hid (xi=(if xB≠0 then xB else if (c / 2 ^ M) % 2 ^ (t - M)=0 then 0 else 6))) (fun _ _ i _=>8 - (intOf i).toNat)
   case atStart =>
    refine ⟨0,c,xB,cs,by omega,rfl,rfl,hcl,h_ (by simp),h_ (by rw [<- HJ0.o];omega),h_ (fun _=>by simp [zbM,zbT]),HO5,HC,HM5',HG5,HS5,h_ ?_⟩;split
    ·rfl
    rw [Nat.zero_sub,Nat.pow_zero,Nat.mod_one,if_pos rfl];omega
   clear HO5 HM5' HG5 HS5;obtain ⟨t,d,xi,ct,ht,rfl,rfl,hd,HD,HLt,HCt,HO,HCE,HM,HG,HS,HX⟩:=hrel;have hct9:=HLt.o;have hlen:=(HO.rd (by omega)).len;have hde:Value.int .u8 ((d:Int) / 2)=.int .u8 ((d / 2:Nat):Int):=(by rw [show ((d / 2:Nat):Int)=(d:Int) / 2 from by omega]);have HDe:=h_ hde;have HD8:=h_ (show d / 2=c / 2 ^ (t + 1) from by rw [HD.o,Nat.pow_succ,Nat.div_div_eq_div_mul]);clear hde;by_cases htl:t < 8
   ·have d2:decide ((t:Int) < 8)=true:=decide_eq_true (by omega);by_cases htM:t < M
    ·have e1:ct.length=j + t:=(by omega);rw [e1] at hlen;have d5:decide (((j + t:Nat):Int) < (n:Int))=true:=decide_eq_true (by omega);obtain ⟨jt,hjt⟩:=nm_ (j + t);rw [<- hjt] at hlen d5;have d6:decide (jt < n)=true:=decide_eq_true (by omega);have d7:jt < n:=(by omega);obtain ⟨q,hq⟩:=nm_ (d % 2:Nat);have hqd:((d:Int) % 2)=(q:Int):=(by omega);have h1c:=h_ (show ∀ j z,(cellVs (q,⟨#[]⟩))[j]?=some z->(wr.alloc (.cells #[.int .u64 ((d:Int) % 2),.string ⟨#[]⟩] 82)).cell? (Addr.add ⟨wr.heap.size,0,none⟩ j)=some z from by rw [hqd];exact zcM wr (q,⟨#[]⟩));have HB7:=h_ (show Below (gb + 1) wr (wr.alloc (.cells #[.int .u64 ((d:Int) % 2),.string ⟨#[]⟩] 82)) from (Below.refl _ _).alloc HS.o _);have HW7:=h_ (HO.alloc (.cells #[.int .u64 ((d:Int) % 2),.string ⟨#[]⟩] 82));have HQ:=h_ hq;have HL8:=h_ (show (ct ++ [((q,⟨#[]⟩):CellB)]).length=j + min (t + 1) M by rw [List.length_append,List.length_singleton];omega)
     have HK8:=h_ (show xB=0->cesL (ct ++ [((q,⟨#[]⟩):CellB)])=cesL cs ++ zbT (zbM (min (t + 1) M) c) from fun h=>by
      rw [zkF,HCt.o h,Nat.min_eq_left (by omega),Nat.min_eq_left (by omega),zh5,zmH,<- HD.o,<- HQ.o,List.append_assoc];rfl)
     have HX8:=h_ (show xi=(if xB≠0 then xB else if (c / 2 ^ M) % 2 ^ (t + 1 - M)=0 then 0 else 6) from by
      have:=HX.o
      rw [Nat.sub_eq_zero_of_le (by omega)] at this ⊢
      exact this)
     have HQl:=h_ (show q < 18446744073709551616 by omega);have HE1:=h_ e1;clear hq hqd hct9 e1 hjt;go_wp2_with (with_reducible refine zcK (gb + 1) _ ?hs HW7.o ⟨wr.heap.size,0,none⟩ (q,⟨#[]⟩) ?hx h1c.o ?hn ?hbase (gb + 1) wr HB7.o l_ ?_)
     case hs=>rfl
     case hx=>rfl
     case hn=>rw [HE1.o];omega
     case hbase=>rw [World.size_alloc];have:=HS.o;omega
     intro v8 w8 hW8 hB8 hg8;have HW8:=h_ hW8;have HC8:=h_ (HCE.snoc (c:=(q,⟨#[]⟩)) ⟨HQl.o,by show (ByteArray.size ⟨#[]⟩)<=140737488351232;decide⟩);have HM8:=h_ (HM.same (hB8.block m (by have:=HML.o;have:=HS3.o;omega)) fun q hq=>hB8.block _ (by have:=HVB.o q hq;omega));have HG8:=h_ (show w.grownBy w8 (some m) from ⟨hB8.os.trans HG.os,hB8.tape.trans HG.tape,hB8.output.trans HG.output,Nat.le_trans HG.size hB8.size,fun q h1 h2=>(hB8.block q (by have:=HS3.o;omega)).trans (HG.block q h1 h2)⟩);have HS8:=h_ (Nat.le_trans HS.o hB8.size);clear hW8 hB8 hg8 HO HM HG HS HB7 HW7 h1c HX;go_wp2;go_roundw
     case rel=>exact ⟨t + 1,d / 2,xi,_,by omega,by go_num,HDe.o,by omega,HD8,HL8,HK8,HW8,HC8,HM8,HG8,HS8,HX8⟩
     simp [intOf];omega
    have e1:ct.length=n:=(by have:=HM5.o;omega);rw [e1] at hlen;have d5:decide ((n:Int) < (n:Int))=false:=decide_eq_false (by omega);have HL8:=h_ (show ct.length=j + min (t + 1) M by omega)
    have HK8:=h_ (show xB=0->cesL ct=cesL cs ++ zbT (zbM (min (t + 1) M) c) from fun h=>by
     rw [HCt.o h,Nat.min_eq_right (by omega),Nat.min_eq_right (by omega)])
    obtain ⟨q,hq⟩:=nm_ (d % 2:Nat);have hqd:((d:Int) % 2)=(q:Int):=(by omega);obtain ⟨ok,hok⟩:∃ ok:Bool,(((d:Int) % 2) == 0)=ok:=⟨_,rfl⟩;have hok2:ok=true ↔ d % 2=0:=by
     rw [<- hok,beq_iff_eq,hqd];omega
    have HX8:=h_ (show (if xi=0 then (if ok=true then 0 else 6) else xi)=(if xB≠0 then xB else if (c / 2 ^ M) % 2 ^ (t + 1 - M)=0 then 0 else 6) from by
     have h:=HX.o
     have hb:=zC6 c M (t - M)
     rw [show M + (t - M)=t from by omega,<- HD.o,show t - M + 1=t + 1 - M from by omega] at hb
     by_cases hB0:xB≠0
     ·rw [if_pos hB0] at h ⊢
      rw [h,if_neg hB0]
     ·rw [if_neg hB0] at h ⊢
      by_cases h1:c / 2 ^ M % 2 ^ (t - M)=0
      ·rw [if_pos h1] at h
       rw [if_pos h]
       by_cases h2:ok=true
       ·rw [if_pos h2,if_pos (hb.2 ⟨h1,hok2.1 h2⟩)]
       ·rw [if_neg h2,if_neg (fun h3=>h2 (hok2.2 (hb.1 h3).2))]
      ·rw [if_neg h1] at h
       rw [if_neg (by omega),if_neg (fun h3=>h1 (hb.1 h3).1)]
       exact h)
    have MM:=h_ (zbQ m v l k1 xi wr HM.o ok 6);have HO9:=h_ HO.o;clear hq hqd hct9 e1 hok2 HX;go_wp2_with fail;clear hok;refine MM.mono ?_;rintro e w8 ⟨rfl,hg8,hM8⟩;have HM8:=h_ hM8;have HG8:=h_ (HG.trans hg8);have HS8:=h_ (Nat.le_trans HS.o hg8.size);have HW8:=h_ (HO.grown hg8 (fun q hq=>by have:=(OwnE.lt HO.o hq).1;have:=HML.o;have:=HS3.o;intro e;injection e with e;omega));clear hg8 hM8 HO HM HG HS MM hlen HO9;go_wp2;go_roundw
    case rel=>exact ⟨t + 1,d / 2,_,ct,by omega,by go_num,HDe.o,by omega,HD8,HL8,HK8,HW8,HCE,HM8,HG8,HS8,HX8⟩
    simp [intOf];omega
   obtain rfl:t=8:=(by omega);have e1:ct.length=j + M:=(by omega);have hK:xB=0->cesL ct=cesL cs ++ zbT (zbM M c):=fun h=>by
    have:=HCt.o h;rw [Nat.min_eq_right (by omega)] at this;exact this
   obtain ⟨f1,f2⟩:=HFin.o xi ct HX.o hK
   have HF1:=h_ (show xi=0->(ct.length % 8=0∨ct.length=n)/\R=rdQ l ((n - ct.length + 7) / 8) (n - ct.length) (cesL ct) k1 from fun h=>by
    rw [e1];exact ⟨HM3.o,f1 h⟩)
   have HF2:=h_ f2;have HL8:=h_ (show ct.length<=n by omega);have HLv:=h_ (OwnE.lenV HO.o);have HE1:=h_ e1;clear f1 f2 hK e1 htl hct9 hlen;go_wp2;go_roundw
   case rel=>exact ⟨ct,xi,k1,HL8,HO,HCE,HM,HG,HS,HF1,HF2⟩
   have h1:=HLv.o;have h2:=HLu.o;have h3:=HJ0.o;have h4:=HE1.o;have h5:=HM5.1;omega
  have hq:((x:Int) == 0)=false:=by rw [beq_eq_false_iff_ne];omega
  have HX:=h_ hx;obtain ⟨r1,r2⟩:=HJ.o hx;have HF:=h_ (show TakeR w m v l 2 n k (.returned u7) wr from ⟨u7,rfl,HG.o,by rw [<- HRR.o,r1,r2];exact HM.o,cs,OwnE.lower HO.o (by have:=HS3.o;omega),HC.o,by rw [Int.toNat_natCast];exact HL.o,fun h=>by rw [<- HRR.o,r2] at h;exact absurd h HX.o⟩);clear r1 r2 hx;go_wp2;go_ret;exact HF.o
 have hjl:cs.length=n:=by rw [<- HJ0.o];omega
 have HF:=h_ (show TakeR w m v l 2 n k (.returned u7) wr from by
  by_cases hx:x=0
  ·subst hx
   have e:=(HI.o rfl).2
   rw [hjl,Nat.sub_self] at e
   have e:R=(cesL cs,k',0):=e
   refine ⟨u7,rfl,HG.o,by rw [<- HRR.o,e];exact HM.o,cs,OwnE.lower HO.o (by have:=HS3.o;omega),HC.o,by rw [Int.toNat_natCast];exact HL.o,fun _=>by rw [<- HRR.o,e]⟩
  ·obtain ⟨r1,r2⟩:=HJ.o hx
   exact ⟨u7,rfl,HG.o,by rw [<- HRR.o,r1,r2];exact HM.o,cs,OwnE.lower HO.o (by have:=HS3.o;omega),HC.o,by rw [Int.toNat_natCast];exact HL.o,fun h=>by rw [<- HRR.o,r2] at h;exact absurd h hx⟩)
 clear hjl;go_wp2;go_ret;exact HF.o
