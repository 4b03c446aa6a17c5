/- -/
import Derived.Test.YtooailmghinicaaGreatDoorWWrtR
import Derived.Test.YtooailmghinicaaGreatDoorWWrtL
set_option maxHeartbeats 16000000
set_option linter.unusedVariables false
set_option linter.unusedSimpArgs false
set_option maxRecDepth 1000000
namespace Go.Proofs.YtooailmghinicaaGreatDoor
open _root_.Go.Proofs.Tryz
open Go.RowKit Go.Shelf
theorem zi3 (v:Value) (l:Bs) (lv:Value) (ps:List PairB) (w:World) (h:Rd w v l) (hL:RdP w lv ps/\PSO ps/\ps.length * 32<=140737488351232) (hT:Tabs w) (hF:Frs w) :
  Calls prog 3 #[v,lv] w fun e w'=>e=.returned (.bool true)/\Below w.heap.size w w':=by
 obtain ⟨ao,cap,hv,_⟩:=id h.shape;subst hv;have hlen:=h.len;have hsm:=h.small;have OP:=h_ (fun wz (hz:Below w.heap.size w wz) (hl:l.length<=70368744177664)=>writer_Open (.slice ao l.length cap) l wz (h.later hz l_) hl (hT.later hz) (hF.later hz));have OM:=h_ (fun wz (hz:Below w.heap.size w wz)=>ref_Open14 (.slice ao l.length cap) l wz (h.later hz l_));have AL:=h_ (law14_alive w hT hF);unfold OpO at OP;unfold OmO at OM;obtain ⟨cs,hcs⟩:=nm_ ((trD l).1);obtain ⟨es,hes⟩:=nm_ ((trD l).2.1);obtain ⟨p,hp⟩:=nm_ ((trD l).2.2.2.1);obtain ⟨x,hx⟩:=nm_ ((trD l).2.2.2.2);rw [<- hcs,<- hes,<- hp,<- hx] at OP OM;have l0:=(show Rd w (.slice none 0 0) [] from (zaG w 0).rd (by simp)).len;have l1:=(RdP.nil w).len;have l2:=(RdC.nil w).len;clear h hL hT hF hcs hes hp hx;go_enter func3,ntmps3;go_wp2_with fail;refine (zgN w lv).mono ?_;rintro e w1 ⟨rfl,rfl⟩;go_wp2_with fail;refine (ziU w).mono ?_;rintro e w1 ⟨rfl,rfl⟩;go_wp2_with fail;refine AL.mono ?_;rintro e w1 ⟨rfl,hb⟩;have HB1:=h_ hb;clear hb AL;go_wp2_with fail;refine (zi2 w1).mono ?_;rintro e w2 ⟨rfl,rfl⟩;go_wp2_with fail;refine (writer_Seq_nil w1).mono ?_;rintro e w2 ⟨rfl,rfl⟩;go_wp2_with fail;refine (ziT w1).mono ?_;rintro e w2 ⟨rfl,rfl⟩;go_wp2_with fail;refine (zgM w1).mono ?_;rintro e w2 ⟨rfl,rfl⟩;go_wp2_with fail;refine (ziV w1).mono ?_;rintro e w2 ⟨rfl,rfl⟩;by_cases hl:4000 < l.length
 ·have d1:decide ((l.length:Int) > 4000)=true:=decide_eq_true (by omega);clear hl OP OM;go_wp2;go_ret;exact ⟨rfl,HB1.o⟩
 have d1:decide ((l.length:Int) > 4000)=false:=decide_eq_false (by omega);have OP1:=h_ (OP.o w1 HB1.o (by omega));clear hl OP;go_wp2_with fail;refine OP1.mono ?_;rintro e w2 ⟨v2,rfl,hb,hw⟩;have HB2:=bT HB1 hb;have HW2:=h_ hw;have OM2:=h_ (OM.o w2 HB2.o);clear hb hw OP1 OM HB1;go_wp2_with fail;refine OM2.mono ?_;rintro e w3 ⟨v3,rfl,hb,hm⟩;have HB3:=bT HB2 hb;have hw:=HW2.o;clear OM2 HW2;by_cases h0:x=0
 ·rcases hw with ⟨h9,_⟩ | ⟨_,g,bv,rfl,hW⟩
  ·exact absurd h0 h9
  rcases hm with ⟨h9,_⟩ | ⟨_,gm,rfl,hM⟩
  ·exact absurd h0 h9
  subst h0;have SA:=h_ (law14_same (hW.later hb) hM);clear hb hW hM;go_wp2_with fail;refine SA.mono ?_;rintro e w4 ⟨rfl,hb⟩;have HB4:=bT HB3 hb;clear hb SA;go_wp2;go_ret;exact ⟨rfl,HB4.o⟩
 rcases hw with ⟨_,rfl⟩ | ⟨h9,_⟩
 ·rcases hm with ⟨_,rfl⟩ | ⟨h9,_⟩
  ·have q:((x:Int) != 0)=true:=(by rw [bne_iff_ne];omega);clear h0 hb;go_wp2;go_ret;exact ⟨rfl,HB3.o⟩
  exact absurd h9 h0
 exact absurd h9 h0
