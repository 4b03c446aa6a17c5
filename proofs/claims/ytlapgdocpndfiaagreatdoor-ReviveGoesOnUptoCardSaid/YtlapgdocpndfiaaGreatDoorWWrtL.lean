/- -/
import Derived.Test.YtlapgdocpndfiaaGreatDoorWWrtP
set_option linter.unusedVariables false
set_option linter.unusedSimpArgs false
set_option maxRecDepth 1000000
namespace Go.Proofs.YtlapgdocpndfiaaGreatDoor
open Go.RowKit Go.Shelf
theorem zzK (w:World) (ts:List TriB) (h:∀ t ∈ ts,RdE w t.1 t.2.1) (hs:ts.length<=100) {b:Nat} (hb:w.heap[b]?=some (.cells (ts.map triV).flatten.toArray 86 (0,0))) :
  RdP w (.slice (some ⟨b,0,none⟩) ts.length ts.length) (ts.map (·.2)):=by
 have hf:(ts.map triV).flatten.length=ts.length * 2:=by
  rw [zbF (n:=2) _ (fun x hx=>by obtain ⟨t,_,rfl⟩:=List.mem_map.1 hx;rfl),List.length_map]
 have ho:OwnG pairE w b (.slice (some ⟨b,0,none⟩) ts.length ts.length) (ts.map triV):=by
  refine ⟨⟨by rw [hf,List.length_map];rfl,.inr ⟨b,ts.length,(ts.map triV).flatten.toArray,by rw [List.length_map],l_,hb,?_⟩⟩,fun x hx=>?_,fun x hx u hu=>?_⟩
  ·refine ⟨by rw [List.length_map];exact l_,Nat.le_trans hs (by decide),by rw [List.size_toArray,hf];rfl,?_⟩;rw [List.length_map];exact List.take_of_length_le (by show (ts.map triV).flatten.length<=ts.length * 2;rw [hf];exact l_)
  ·obtain ⟨t,_,rfl⟩:=List.mem_map.1 hx;rfl
  obtain ⟨t,ht,rfl⟩:=List.mem_map.1 hx;exact zcM (h t ht) u hu
 exact ⟨ts,rfl,ho.rd (by rw [List.length_map];omega),h⟩
