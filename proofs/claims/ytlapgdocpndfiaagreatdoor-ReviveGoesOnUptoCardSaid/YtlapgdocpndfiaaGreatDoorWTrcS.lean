/- -/
import Derived.Test.YtlapgdocpndfiaaGreatDoorWTrcL
import Derived.Deep.AppendLies
import Derived.Test.YtlapgdocpndfiaaGreatDoorWColRd
import Derived.Test.YtlapgdocpndfiaaGreatDoorWZSameW
import Derived.Test.YtlapgdocpndfiaaGreatDoorWColTk
import Derived.Test.YtlapgdocpndfiaaGreatDoorWFrame
import Derived.Test.YtlapgdocpndfiaaGreatDoorWZN
set_option linter.unusedVariables false
set_option linter.unusedSimpArgs false
set_option maxRecDepth 1000000
namespace Go.Proofs.YtlapgdocpndfiaaGreatDoor
open _root_.Go.Proofs.Tryz
open Go.RowKit Go.Shelf
/- -/
def zEB (w:World) (r:Bs × Int × List PairB × Nat × Nat) (e:Ending) (w':World):Prop :=
 ∃ vv,e=.returned (.tuple #[.int .i64 r.2.1,vv,.int .i64 (r.2.2.2.2:Nat)])/\OffS w' vv r.2.2.1 (fun j=>j < w.heap.size)/\Below w.heap.size w w'
/- -/
def zEL (w:World) (P:Prop) (e:Ending) (w':World):Prop:=∃ b:Bool,e=.returned (.bool b)/\(b=true ↔ P)/\Below w.heap.size w w'
/- -/
def zED (w:World) (P:Prop) (e:Ending) (w':World):Prop:=∃ x:Int,e=.returned (.int .i64 x)/\(x=0∨x=1)/\(x=0->P)/\Below w.heap.size w w'
theorem zjR (pv:Value) (ps:List PairB) (w:World) (h:RdP w pv ps) :
  Calls prog 37 #[.slice (some ⟨w.heap.size,0,none⟩) 1 1] (w.alloc (.cells #[pv] 43)) (zED (w.alloc (.cells #[pv] 43)) (fewG ps)):=by
 have hb:=(Below.refl w.heap.size w).alloc l_ (.cells #[pv] 43);refine (zoY (.slice (some ⟨w.heap.size,0,none⟩) 1 1) [pv] [ps] _ (ztN (z:=(0,0)) (heap_alloc_new _ _) (by simp)) (by simp) rfl (fun i hi wz hz=>?_)).mono ?_
 ·obtain rfl:i=0:=by simpa using hi
  exact (h.later hb l_).later hz l_
 rintro e w' ⟨x,he,hx,hf,hb'⟩;exact ⟨x,he,hx,fun h0=>by simpa using hf h0,hb'⟩
/- -/
def zAW (w:World) (b:Bs) (e:Ending) (w':World):Prop :=
 ∃ v,e=.returned (.tuple #[v,.int .i64 ((trD b).2.2.2.1:Nat),.int .i64 ((trD b).2.2.2.2:Nat)])/\RdT13 w' v (trD b).1 (trD b).2.1/\CS (trD b).1/\Below w.heap.size w w'
def zyJ (w:World) (b:Bs) (e:Ending) (w':World):Prop :=
 ∃ v,e=.returned (.tuple #[v,.int .i64 ((trD b).2.2.2.1:Nat),.int .i64 ((trD b).2.2.2.2:Nat)])/\(∀ w2,Only (fun j=>j < w.heap.size) w' w2->RdT13 w2 v (trD b).1 (trD b).2.1)/\CS (trD b).1/\Below w.heap.size w w'
