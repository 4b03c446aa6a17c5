/- -/
import Derived.Test.YtlapgdocpndfiaaGreatDoorUZPure
import Derived.Test.YtlapgdocpndfiaaGreatDoorURow
import Derived.Test.YtlapgdocpndfiaaGreatDoorUW
set_option linter.unusedVariables false
set_option linter.unusedSimpArgs false
set_option maxRecDepth 1000000
namespace Go.Proofs.YtlapgdocpndfiaaGreatDoor
open Go.RowKit Go.Shelf
def Vr (cs:List ColB) (r:List CellB):Prop:=errRow cs r=0/\CES r
theorem zbF (cs:List ColB):Z.TO (Vr cs) (cmpR cs):=by
 refine ⟨fun {a b} ha hb=>?_,fun {a b} ha hb=>?_,fun {a b c} ha hb hc h1 h2=>?_⟩
 ·rw [zeQ ha.1 hb.1];exact zq2 (zfC ha.2 ha.1) (zfC hb.2 hb.1)
 ·rw [zeQ ha.1 hb.1,zeQ hb.1 ha.1];exact zq5 (zfC ha.2 ha.1) (zfC hb.2 hb.1)
 rw [zeQ ha.1 hb.1] at h1;rw [zeQ hb.1 hc.1] at h2;rw [zeQ ha.1 hc.1];exact (zm5 (zfC ha.2 ha.1) (zfC hb.2 hb.1) (zfC hc.2 hc.1) (by omega) (by omega)).2 (.inl h1)
def chkF (cs:List ColB):Option (List CellB)->List PairB->Nat
 | _,[]=>0
 | q,p :: t=>if errRow cs p.1≠0 then errRow cs p.1 else if p.2=0 then 2 else
   match q with
   | some r=>if 0<=cmpR cs r p.1 then 9 else chkF cs (some p.1) t
   | none=>chkF cs (some p.1) t
def chkZ (cs:List ColB) (ps:List PairB):Nat:=if errS (colsL cs)≠0 then errS (colsL cs) else if 1024 < ps.length then 13 else chkF cs none ps
def firstE (cs:List ColB):List PairB->Nat
 | []=>0
 | p :: t=>if errRow cs p.1≠0 then errRow cs p.1 else firstE cs t
def overB (pt:List PairB):Bool:=pt.any fun p=>wE p.2 != 0
abbrev zcU (cs:List ColB) (ps:List PairB):List PairB:=Z.parts (cmpR cs) ps
abbrev canonC (cs:List ColB) (ps:List PairB):List PairB:=Z.canon (cmpR cs) ps
def clcE (cs:List ColB) (ps:List PairB):Nat :=
 if errS (colsL cs)≠0 then errS (colsL cs) else if firstE cs ps≠0 then firstE cs ps else if overB (zcU cs ps)=true then 12 else if 1024 < (canonC cs ps).length then 13 else 0
def clcO (cs:List ColB) (ps:List PairB):List PairB:=if clcE cs ps=0 then canonC cs ps else []
def sumE (cs:List ColB) (a b:List PairB):Nat:=if chkZ cs a≠0 then chkZ cs a else if chkZ cs b≠0 then chkZ cs b else clcE cs (a ++ b)
def sumO (cs:List ColB) (a b:List PairB):List PairB:=if sumE cs a b=0 then canonC cs (a ++ b) else []
section
variable {cs:List ColB} {ps qs a b:List PairB}
theorem zpJ:∀ (ps:List PairB),firstE cs ps<=13
 | []=>by simp [firstE]
 | p :: t=>by
  have h1:=zpP cs p.1
  have h2:=zpJ t
  unfold firstE;split <;> omega
theorem firstE_zero:∀ {ps:List PairB},firstE cs ps=0 ↔ ∀ p ∈ ps,errRow cs p.1=0
 | []=>by simp [firstE]
 | p :: t=>by
  unfold firstE
  by_cases h:errRow cs p.1=0
  ·rw [if_neg (fun h9=>h9 h),firstE_zero]
   simp [h]
  ·rw [if_pos h]
   constructor
   ·intro h9;exact absurd h9 h
   ·intro h9;exact absurd (h9 p (by simp)) h
theorem zsC (hP:PSO ps) (h:∀ p ∈ ps,errRow cs p.1=0):Z.AllV (Vr cs) ps:=fun p hp=>⟨h p hp,(hP p hp).1⟩
theorem zzD (hP:PSO ps):∀ {q:Option (List CellB)},(∀ r,q=some r->Vr cs r)->(chkF cs q ps=0 ↔ Z.isSet (Vr cs) (cmpR cs) ps/\∀ r,q=some r->∀ p ∈ ps,cmpR cs r p.1 < 0):=by
 induction ps with
 | nil=>intro q _;simp [chkF,Z.isSet.nil]
 | cons p t ih =>
  intro q hq;have hPt:PSO t:=hP.sub (fun x hx=>by simp [hx]);have hcons:∀ (hv:Vr cs p.1) (h0:p.2≠0),(Z.isSet (Vr cs) (cmpR cs) (p :: t) ↔ Z.isSet (Vr cs) (cmpR cs) t/\∀ x ∈ t,cmpR cs p.1 x.1 < 0):=fun hv h0=>by
   constructor
   ·intro h;exact ⟨h.sub (List.sublist_cons_self p t),(List.pairwise_cons.1 h.srt).1⟩
   rintro ⟨h1,h2⟩;exact ⟨List.pairwise_cons.2 ⟨h2,h1.srt⟩,fun x hx=>by rcases List.mem_cons.1 hx with rfl | hx;exact hv;exact h1.all x hx,fun x hx=>by rcases List.mem_cons.1 hx with rfl | hx;exact h0;exact h1.nz x hx⟩
  unfold chkF;by_cases h1:errRow cs p.1=0
  ·have hv:Vr cs p.1:=⟨h1,(hP p (by simp)).1⟩;rw [if_neg (fun h9=>h9 h1)];by_cases h2:p.2=0
   ·rw [if_pos h2];constructor
    ·intro h;cases h
    rintro ⟨h,_⟩;exact absurd h2 (h.nz p (by simp))
   rw [if_neg h2];have iht:=ih hPt (q:=some p.1) (fun r hr=>by injection hr with hr;rw [<- hr];exact hv);have hnext:chkF cs (some p.1) t=0 ↔ Z.isSet (Vr cs) (cmpR cs) (p :: t):=by
    rw [iht,hcons hv h2];constructor
    ·rintro ⟨h3,h4⟩;exact ⟨h3,h4 p.1 rfl⟩
    rintro ⟨h3,h4⟩;exact ⟨h3,fun r hr=>by injection hr with hr;rw [<- hr];exact h4⟩
   cases q with
   | none =>
    show chkF cs (some p.1) t=0 ↔ _;rw [hnext];constructor
    ·intro h;exact ⟨h,fun r hr=>by cases hr⟩
    rintro ⟨h,_⟩;exact h
   | some r =>
    have hr:=hq r rfl;show (if 0<=cmpR cs r p.1 then 9 else chkF cs (some p.1) t)=0 ↔ _;by_cases h3:0<=cmpR cs r p.1
    ·rw [if_pos h3];constructor
     ·intro h;cases h
     rintro ⟨_,h⟩;have:=h r rfl p (by simp);omega
    rw [if_neg h3,hnext];constructor
    ·intro h;refine ⟨h,fun r' hr' x hx=>?_⟩;injection hr' with hr'
     subst hr';rcases List.mem_cons.1 hx with rfl | hx
     ·omega
     exact (zbF cs).trans hr hv (h.all x (by simp [hx])) (by omega) ((List.pairwise_cons.1 h.srt).1 x hx)
    rintro ⟨h,_⟩;exact h
  rw [if_pos h1];constructor
  ·intro h;exact absurd h h1
  rintro ⟨h,_⟩;exact absurd (h.all p (by simp)).1 h1
theorem zb2 (hP:PSO ps):chkZ cs ps=0 ↔ errS (colsL cs)=0/\ps.length<=1024/\Z.isSet (Vr cs) (cmpR cs) ps:=by
 unfold chkZ;by_cases h1:errS (colsL cs)=0
 ·rw [if_neg (fun h9=>h9 h1)];by_cases h2:1024 < ps.length
  ·rw [if_pos h2];constructor
   ·intro h;cases h
   rintro ⟨_,h,_⟩;omega
  rw [if_neg h2,zzD hP (fun r hr=>by cases hr)];constructor
  ·rintro ⟨h,_⟩;exact ⟨h1,by omega,h⟩
  rintro ⟨_,_,h⟩;exact ⟨h,fun r hr=>by cases hr⟩
 rw [if_pos h1];constructor
 ·intro h;exact absurd h h1
 rintro ⟨h,_⟩;exact absurd h h1
theorem zw6 {x:Int}:wE x=0 ↔ i64 x:=by
 by_cases h:i64 x
 ·rw [show wE x=0 from if_pos h];simp [h]
 rw [show wE x=12 from if_neg h];simp [h]
theorem zjK:overB ps=false ↔ ∀ p ∈ ps,i64 p.2:=by
 unfold overB;rw [List.any_eq_false];constructor
 ·intro h p hp;have:=h p hp;exact zw6.1 (by simpa using this)
 intro h p hp;have:=zw6.2 (h p hp);simp [this]
theorem zn9:i64 0:=⟨by omega,by omega⟩
theorem zkE (hP:PSO ps):clcE cs ps=0 ↔ errS (colsL cs)=0/\Z.AllV (Vr cs) ps/\(∀ r,i64 (Z.sumW ps r))/\(canonC cs ps).length<=1024:=by
 unfold clcE;by_cases h1:errS (colsL cs)=0
 ·rw [if_neg (fun h9=>h9 h1)];by_cases h2:firstE cs ps=0
  ·have hV:=zsC (cs:=cs) hP (firstE_zero.1 h2);have hall:=Z.parts_all (zbF cs) hV (I:=i64) zn9;rw [if_neg (fun h9=>h9 h2)];by_cases h3:overB (zcU cs ps)=true
   ·rw [if_pos h3];constructor
    ·intro h;cases h
    rintro ⟨_,_,h,_⟩;have:=zjK.2 (hall.2 h);rw [h3] at this;cases this
   rw [if_neg h3];have h3':=hall.1 (zjK.1 (by simpa using h3));by_cases h4:1024 < (canonC cs ps).length
   ·rw [if_pos h4];constructor
    ·intro h;cases h
    rintro ⟨_,_,_,h⟩;omega
   rw [if_neg h4];constructor
   ·intro _;exact ⟨h1,hV,h3',by omega⟩
   intro _;rfl
  rw [if_pos h2];constructor
  ·intro h;exact absurd h h2
  rintro ⟨_,h,_⟩;exact absurd (firstE_zero.2 fun p hp=>(h p hp).1) h2
 rw [if_pos h1];constructor
 ·intro h;exact absurd h h1
 rintro ⟨h,_⟩;exact absurd h h1
theorem zB8 {pt:List PairB} (h:∀ r,Z.has pt r->Z.has ps r) (hP:PSO ps) (hw:∀ p ∈ pt,i64 p.2):PSO pt:=fun p hp=>by
 obtain ⟨q,hq,e⟩:=h p.1 ⟨p,hp,rfl⟩
 refine ⟨?_,hw p hp⟩
 rw [<- e];exact (hP q hq).1
theorem zqC (hP:PSO ps) (hV:Z.AllV (Vr cs) ps) (hw:∀ r,i64 (Z.sumW ps r)):PSO (canonC cs ps):=by
 have h1:=(Z.parts_all (zbF cs) hV (I:=i64) zn9).2 hw;refine zB8 (ps:=ps) (fun r ⟨p,hp,e⟩=>(Z.parts_has ps r).1 ⟨p,(List.mem_filter.1 hp).1,e⟩) hP fun p hp=>h1 p (List.mem_filter.1 hp).1
theorem zBZ (hP:PSO ps):PSO (clcO cs ps):=by
 unfold clcO;split
 ·rename_i h;obtain ⟨_,h2,h3,_⟩:=(zkE hP).1 h;exact zqC hP h2 h3
 intro p hp;simp at hp
end
/- -/
def gP (p:PairB):Int:=1 + zFU p.1 + (p.1.length:Int)
