/- -/
import Derived.Test.YtpcobefhgkiolaaGreatDoorAEntP
import Derived.Test.YtpcobefhgkiolaaGreatDoorACrcW
import Derived.RegionTactic
import Derived.BigRegion
import Derived.Test.YtpcobefhgkiolaaGreatDoorASchW
set_option linter.unusedVariables false
set_option linter.unusedSimpArgs false
set_option maxRecDepth 1000000
namespace Go.Proofs.YtpcobefhgkiolaaGreatDoor
open Go.RowKit
def RetW (w:World) (r:List UInt8 × Nat) (e:Ending) (w':World):Prop :=
 ∃ v,e=.returned (.tuple #[v,.int .i64 (r.2:Nat)])∧Own w' w.heap.size v r.1∧Below w.heap.size w w'
theorem RetW.none {w:World} {r:List UInt8 × Nat} {k:Nat} {y:Int} (h:r=([],k)) (hy:y=k):RetW w r (.returned (.tuple #[.slice none 0 0,.int .i64 y])) w:=by
 subst h;subst hy
 exact ⟨_,rfl,own_nil w _,Below.refl _ _⟩
theorem RetW.own {w w':World} {r:List UInt8 × Nat} {l:List UInt8} {k:Nat} {v:Value} {y:Int} (h:r=(l,k)) (ho:Own w' w.heap.size v l) (hb:Below w.heap.size w w') (hy:y=(k:Nat)) :
  RetW w r (.returned (.tuple #[v,.int .i64 y])) w':=by
 subst h hy
 exact ⟨_,rfl,ho,hb⟩
set_option maxHeartbeats 1000000 in
theorem frame_Write (k:Int) (v:Value) (l:List UInt8) (w:World) (h:Rd w v l) :
  Calls Tryz.prog 66 #[.int .i64 k,v] w (RetW w (wrF k l)):=by
 have hlen:=h.len
 have hsm:=h.small
 by_cases h1:k < 0
 ·have hr:wrF k l=([],10):=by unfold wrF;rw [if_pos (.inl h1)]
  have HR:=h_ hr
  clear hr
  go_enter Tryz.func66,Tryz.ntmps66
  go_wp2
  go_ret2
  exact RetW.none HR.out rfl
 ·by_cases h2:2 < k
  ·have hr:wrF k l=([],10):=by unfold wrF;rw [if_pos (.inr h2)]
   have HR:=h_ hr
   clear hr
   go_enter Tryz.func66,Tryz.ntmps66
   go_wp2
   go_ret2
   exact RetW.none HR.out rfl
  ·obtain ⟨n,rfl⟩:=Int.eq_ofNat_of_zero_le (show 0≤k by omega)
   by_cases h3:1048576 < l.length
   ·have hr:wrF (n:Int) l=([],13):=by unfold wrF;rw [if_neg (by omega),if_pos h3]
    have HR:=h_ hr
    clear hr
    go_enter Tryz.func66,Tryz.ntmps66
    go_wp2
    go_ret2
    exact RetW.none HR.out rfl
   ·have hr:wrF (n:Int) l=(frB n l,0):=by unfold wrF;rw [if_neg (by omega),if_neg h3,Int.toNat_natCast]
    have HR:=h_ hr
    clear hr
    have hle:=encU_le l.length (by omega)
    have hel:=encB_length l
    have HL:=h_ (And.intro hle hel)
    clear hle hel
    have hc:cellB (UInt8.ofNat n)=.int .u8 (n:Int):=by unfold cellB;rw [UInt8.toNat_ofNat'];congr 1;omega
    have ho0:=own_lit w w.heap.size l_ [UInt8.ofNat n] (by simp [maxLen])
    rw [show (cellsB [UInt8.ofNat n]).toArray=#[.int .u8 (n:Int)] from by simp [cellsB,hc]] at ho0
    clear hc
    have hb0:Below w.heap.size w (w.alloc (.cells #[.int .u8 (n:Int)] 5 (0,0))):=(Below.refl _ _).alloc l_ _
    go_enter Tryz.func66,Tryz.ntmps66
    go_wp2_with fail
    refine (wire_Bytes v l _ (h.alloc _)).mono ?_
    rintro e w1 ⟨v1,rfl,ho1,hb1⟩
    have hb2:=hb0.trans (hb1.mono hb0.size)
    have ho2:=ho0.later hb1 l_
    have hr1:=ho1.rd (by have:=HL.out;omega)
    clear ho0 hb0 ho1 hb1
    go_wp2_with (with_reducible refine wpl_append w.heap.size _ [UInt8.ofNat n] ?hs ho2 _ (encB l) ?hx hr1 ?hn ?hbase w.heap.size w hb2 l_ ?_)
    case hs=>rfl
    case hx=>rfl
    case hn=>have:=HL.out;simp;omega
    case hbase=>exact hb2.size
    intro v3 w3 ho3 hb3 _
    rw [show [UInt8.ofNat n] ++ encB l=frX n l from rfl] at ho3
    have hr3:=ho3.rd (by have:=HL.out;have:=frX_length n l;omega)
    go_wp2_with fail
    refine (crc_Seal v3 _ _ hr3).mono ?_
    rintro e w4 ⟨v4,rfl,ho4,hb4⟩
    go_wp2
    go_ret2
    exact RetW.own HR.out (ho4.base hb3.size) (hb3.trans (hb4.mono hb3.size)) rfl
end Go.Proofs.YtpcobefhgkiolaaGreatDoor


/- -/
namespace Go.Proofs.YtpcobefhgkiolaaGreatDoor
open Go.RowKit
set_option maxHeartbeats 1000000 in
theorem ref_Write11 (k:Int) (v:Value) (l:List UInt8) (w:World) (h:Rd w v l) :
  Calls Tryz.prog 111 #[.int .i64 k,v] w (RetW w (wrF k l)):=by
 have hlen:=h.len
 have hsm:=h.small
 by_cases h1:k < 0
 ·have hr:wrF k l=([],10):=by unfold wrF;rw [if_pos (.inl h1)]
  have HR:=h_ hr
  clear hr
  go_enter Tryz.func111,Tryz.ntmps111
  go_wp2
  go_ret2
  exact RetW.none HR.out rfl
 ·by_cases h2:2 < k
  ·have hr:wrF k l=([],10):=by unfold wrF;rw [if_pos (.inr h2)]
   have HR:=h_ hr
   clear hr
   go_enter Tryz.func111,Tryz.ntmps111
   go_wp2
   go_ret2
   exact RetW.none HR.out rfl
  ·obtain ⟨n,rfl⟩:=Int.eq_ofNat_of_zero_le (show 0≤k by omega)
   by_cases h3:1048576 < l.length
   ·have hr:wrF (n:Int) l=([],13):=by unfold wrF;rw [if_neg (by omega),if_pos h3]
    have HR:=h_ hr
    clear hr
    go_enter Tryz.func111,Tryz.ntmps111
    go_wp2
    go_ret2
    exact RetW.none HR.out rfl
   ·have hr:wrF (n:Int) l=(frB n l,0):=by unfold wrF;rw [if_neg (by omega),if_neg h3,Int.toNat_natCast]
    have HR:=h_ hr
    clear hr
    have hle:=encU_le l.length (by omega)
    have hel:=encB_length l
    have HL:=h_ (And.intro hle hel)
    clear hle hel
    have hc:cellB (UInt8.ofNat n)=.int .u8 (n:Int):=by unfold cellB;rw [UInt8.toNat_ofNat'];congr 1;omega
    have ho0:=own_lit w w.heap.size l_ [UInt8.ofNat n] (by simp [maxLen])
    rw [show (cellsB [UInt8.ofNat n]).toArray=#[.int .u8 (n:Int)] from by simp [cellsB,hc]] at ho0
    clear hc
    have hb0:Below w.heap.size w (w.alloc (.cells #[.int .u8 (n:Int)] 5 (0,0))):=(Below.refl _ _).alloc l_ _
    go_enter Tryz.func111,Tryz.ntmps111
    go_wp2_with fail
    refine (ref_Bytes v l _ (h.alloc _)).mono ?_
    rintro e w1 ⟨v1,rfl,ho1,hb1⟩
    have hb2:=hb0.trans (hb1.mono hb0.size)
    have ho2:=ho0.later hb1 l_
    have hr1:=ho1.rd (by have:=HL.out;omega)
    clear ho0 hb0 ho1 hb1
    go_wp2_with (with_reducible refine wpl_append w.heap.size _ [UInt8.ofNat n] ?hs ho2 _ (encB l) ?hx hr1 ?hn ?hbase w.heap.size w hb2 l_ ?_)
    case hs=>rfl
    case hx=>rfl
    case hn=>have:=HL.out;simp;omega
    case hbase=>exact hb2.size
    intro v3 w3 ho3 hb3 _
    rw [show [UInt8.ofNat n] ++ encB l=frX n l from rfl] at ho3
    have hr3:=ho3.rd (by have:=HL.out;have:=frX_length n l;omega)
    go_wp2_with fail
    refine (ref_Seal v3 _ _ hr3).mono ?_
    rintro e w4 ⟨v4,rfl,ho4,hb4⟩
    go_wp2
    go_ret2
    exact RetW.own HR.out (ho4.base hb3.size) (hb3.trans (hb4.mono hb3.size)) rfl
end Go.Proofs.YtpcobefhgkiolaaGreatDoor

