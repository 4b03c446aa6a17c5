/- -/
import Derived.Test.YtlapgdocpndfiaaGreatDoorWRvB
set_option maxHeartbeats 4000000
set_option linter.unusedVariables false
set_option linter.unusedSimpArgs false
set_option maxRecDepth 1000000
namespace Go.Proofs.YtlapgdocpndfiaaGreatDoor
open _root_.Go.Proofs.Tryz
open Go.RowKit Go.Shelf
theorem zjA (v:Value) (l:List PairB) (k:Int) (w:World) (h:RdP w v l/\PSO l/\l.length * 32<=140737488351232) (hk:-9223372036854775808<=k/\k<=9223372036854775807) (hT:Tabs w) (hF:Frs w) :
  Calls prog 5 #[v,.int .i64 k] w fun e w'=>e=.returned (.bool true)/\Below w.heap.size w w':=by
 obtain ⟨av,nv,cv,rfl⟩:=h.1.lit12;have l0:=(show Rd w (.slice none 0 0) [] from (zb3 w 0).rd (by simp)).len;have l1:=(RdP.nil w).len;have AL:=h_ (zbU w hT hF);clear h hk hT hF;go_enter func5,ntmps5;go_wp2_with fail;refine AL.mono ?_;rintro e w1 ⟨rfl,hb⟩;have HB:=h_ hb;clear hb AL;go_wp2_with fail;refine (zgI _ (.slice av nv cv)).mono ?_;rintro e w2 ⟨rfl,hb⟩;replace HB:=bT HB hb;clear hb;go_wp2_with fail;refine (zj5 _).mono ?_;rintro e w2 ⟨rfl,hb⟩;replace HB:=bT HB hb;clear hb;go_wp2_with fail;refine (zj4 _).mono ?_;rintro e w2 ⟨rfl,hb⟩;replace HB:=bT HB hb;clear hb;go_wp2_with fail;refine (zhV _ (.int .i64 k) (.slice none 0 0)).mono ?_;rintro e w2 ⟨rfl,hb⟩;replace HB:=bT HB hb;clear hb;go_wp2_with fail;refine (zhW _).mono ?_;rintro e w2 ⟨rfl,hb⟩;replace HB:=bT HB hb;clear hb;go_wp2_with fail;refine (zl7 _).mono ?_;rintro e w2 ⟨rfl,hb⟩;replace HB:=bT HB hb;clear hb;go_wp2_with fail;refine (zj3 _).mono ?_;rintro e w2 ⟨rfl,hb⟩;replace HB:=bT HB hb;clear hb;go_wp2_with fail;refine (zj8 _).mono ?_;rintro e w2 ⟨rfl,hb⟩;replace HB:=bT HB hb;clear hb;go_wp2_with fail;refine (zj7 _).mono ?_;rintro e w2 ⟨rfl,hb⟩;replace HB:=bT HB hb;clear hb;go_wp2;go_ret;exact ⟨rfl,HB.o⟩
