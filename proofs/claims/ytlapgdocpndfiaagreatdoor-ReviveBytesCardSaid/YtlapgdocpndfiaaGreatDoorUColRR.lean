/- -/
import Derived.Test.YtlapgdocpndfiaaGreatDoorUColRd
import Derived.Test.YtlapgdocpndfiaaGreatDoorUZSameW
import Derived.Test.YtlapgdocpndfiaaGreatDoorUColRef
set_option maxHeartbeats 8000000
set_option linter.unusedVariables false
set_option linter.unusedSimpArgs false
set_option maxRecDepth 1000000
namespace Go.Proofs.YtlapgdocpndfiaaGreatDoor
open _root_.Go.Proofs.Tryz
open Go.RowKit Go.Shelf
/- -/
/- -/
theorem zxC (m : Nat) (v : Value) (l : Bs) (k : Nat) (w : World) (hM : Mdl w m v l k 0) (kind n : Int) (h0 : takeE kind n ≠ 0) :
    Calls prog 201 #[.pointer (some ⟨m, 0, none⟩), .int .i64 kind, .int .i64 n] w (TakeR w m v l kind n k) := by
 have HF:=Lib.hid (zCN (l:=l) (k:=k) h0);obtain ⟨y,hy⟩:=nm_ (takeE kind n);rw [<- hy] at h0 HF;have key:∀ (b1 b2 b3 b4 b5:Bool),decide (kind ≥ 0)=b1->decide (kind<=5)=b2->decide (n ≥ 0)=b3->decide (n<=1024)=b4->decide (0 < n)=b5->(if (b1 && b2)=true then (if (b3 && b4)=true then 0 else 3) else 10)=y->Calls prog 201 #[.pointer (some ⟨m,0,none⟩),.int .i64 kind,.int .i64 n] w (TakeR w m v l kind n k):=by
  intro b1 b2 b3 b4 b5 d1 d2 d3 d4 d5 hyy;have HM:=Lib.hid hM;have H0:=Lib.hid h0;clear hM hy h0;have HY:=Lib.hid hyy;clear hyy;cases b1 <;> cases b2 <;> cases b3 <;> cases b4 <;> cases b5 <;> first
   | (exact absurd HY.symm H0.o)
   | (go_enter func201, ntmps201
      go_wp2_with fail
      refine (zbQ m v l k 0 w HM.o _ 10).mono ?_
      rintro e w1 ⟨rfl, hg1, hM1⟩
      have HG1 := Lib.hid hg1
      have HM1 := Lib.hid hM1
      clear hg1 hM1
      go_wp2_with fail
      refine (zbQ m v l k _ w1 HM1.o _ 3).mono ?_
      rintro e w2 ⟨rfl, hg2, hM2⟩
      have hM2 : Mdl w2 m v l k y := by rw [<- HY.o]; exact hM2
      have HG2 := Lib.hid (HG1.trans hg2)
      have HM2 := Lib.hid hM2
      clear hg2 hM2 HG1 HM1
      have HB3 := Lib.hid (show Below w2.heap.size w2 (w2.alloc (.cells #[.int .u64 0, .string ⟨#[]⟩] 82)) from (Below.refl _ _).alloc (Nat.le_refl _) _)
      have HG3 := Lib.hid (HG2.trans (below_grown HB3.o (some m)))
      have HM3 := Lib.hid (HM2.later HB3.o (Nat.le_refl _))
      have c2 := HM3.cell2
      have hq : ((y : Int) == 0) = false := by rw [beq_eq_false_iff_ne]; have := H0.o; omega
      go_wp2
      generalize w2.alloc (.cells #[.int .u64 0, .string ⟨#[]⟩] 82) = w3 at *
      clear HB3 HG2 HM2
      go_loopw [7] (fun a wr => a = .slice none 0 0 /\ wr = w3) (fun _ _ => 0)
      case atStart => exact ⟨rfl, rfl⟩
      case round =>
        obtain ⟨rfl, rfl⟩ := hrel
        go_wp2
        go_ret
        exact ⟨_, rfl, HG3.o, by rw [HF.o]; exact HM3.o, [], OwnE.nil _ _, CES.nil, by simp, fun h => by rw [HF.o] at h; exact absurd h H0.o⟩)
 refine key _ _ _ _ _ rfl rfl rfl rfl rfl ?_;rw [hy];unfold takeE;by_cases h1:kind < 0∨5 < kind
 ·rw [if_pos h1,if_neg (by simp;omega)]
 rw [if_neg h1,if_pos (by simp;omega)];by_cases h2:n < 0∨1024 < n
 ·rw [if_pos h2,if_neg (by simp;omega)]
 rw [if_neg h2,if_pos (by simp;omega)]
theorem zuN (m:Nat) (v:Value) (l:Bs) (k:Nat) (w:World) (hM:Mdl w m v l k 0) (kind n:Int) :
  Calls prog 201 #[.pointer (some ⟨m,0,none⟩),.int .i64 kind,.int .i64 n] w (TakeR w m v l kind n k):=by
 by_cases h0:takeE kind n=0
 ·unfold takeE at h0;have hk:0<=kind/\kind<=5:=by
   by_cases h:kind < 0∨5 < kind
   ·rw [if_pos h] at h0;cases h0
   omega
  rw [if_neg (by omega)] at h0;have hn:0<=n/\n<=1024:=by
   by_cases h:n < 0∨1024 < n
   ·rw [if_pos h] at h0;cases h0
   omega
  obtain ⟨q,rfl⟩:∃ q:Nat,n=(q:Int):=⟨n.toNat,by omega⟩;by_cases h2:kind=2
  ·subst h2;exact zxE m v l k w hM q (by omega)
  exact zxD m v l k w hM kind hk h2 q (by omega)
 exact zxC m v l k w hM kind n h0
