/- -/
import Derived.Test.YtlapgdocpndfiaaGreatDoorWBaseA
import Derived.Deep.Slices
set_option linter.unusedVariables false
set_option linter.unusedSimpArgs false
set_option maxRecDepth 1000000
namespace Go.Proofs.YtlapgdocpndfiaaGreatDoor
open _root_.Go.Proofs.Tryz
open Go.ChangeShapes Go.WideShapes Go.ChangeAt Go.RowKit Go.Deep
section
variable {H:Type} {enc:TypeId × Value->H} {W:World}
theorem zC2 {fuel:Nat} {v:Value} {d:DataW H} {ps:List MemPlace} (hf:DataW.trod enc prog W 0 (fun _=>true) true fuel 22 [v]=some (d,ps)) (hz:∀ n ∈ d.weights prog 22,n<=reachBytes):∃ l,Rd W v l:=by
 rcases open_ints underlying22 underlying5 cells_u8 hf with ⟨hcs,_⟩ | ⟨x,l,c,zs,hcs,_,hl,hm,hzl,hx,hcell,hwz⟩
 ·simp at hcs;subst hcs;exact ⟨[],Rd.nil W⟩
 simp at hcs;subst hcs;simp only [Prod.mk.injEq] at hx;obtain ⟨rfl,_⟩:=hx;simp only [if_true] at hzl;have hs:=hz _ (by rw [DataW.weights];simp only [underlying22];exact List.mem_cons_self ..);rw [zsY] at hs;simp only [lits,List.length_map,List.length_take,List.length_drop,reachBytes] at hs;have hbnd:∀ n ∈ zs,0<=n/\n<=255:=fun n hn=>zDC (hwz n hn);refine ⟨(zs.take l).map fun n=>UInt8.ofNat n.toNat,⟨some x,c,?_,?_,(by intro h;cases h),?_⟩,?_,?_⟩
 ·simp;omega
 ·simp;omega
 ·intro hp;simp at hp;have h0:=hcell 0 (by omega);obtain ⟨b,o,sp⟩:=x;cases sp with
  | none=>exact ⟨b,o,rfl⟩
  | some s =>
   exfalso;simp only [Addr.add,if_true,World.cell?] at h0;split at h0 <;> simp at h0
 ·intro i hi;simp at hi;have h0:=hcell i (by omega);have e:at8 ((zs.take l).map fun n=>UInt8.ofNat n.toNat) i=zs.getD i 0:=by
   have hz':=hbnd (zs[i]'(by omega)) (List.getElem_mem _);rw [zhQ (by simp;omega)];simp [List.getD,show i < zs.length by omega];omega
  rw [e];exact h0
 simp;omega
end
