/- -/
import Derived.Test.YtpcobefhgkiolaaGreatDoorCBatP
import Derived.Test.YtpcobefhgkiolaaGreatDoorCBaseB
import Derived.Test.YtpcobefhgkiolaaGreatDoorCRdr
import Derived.Test.YtpcobefhgkiolaaGreatDoorCZProgA
import Derived.Test.YtpcobefhgkiolaaGreatDoorCCrc
import Derived.Test.YtpcobefhgkiolaaGreatDoorCRow
set_option linter.unusedVariables false
set_option linter.unusedSimpArgs false
set_option maxRecDepth 1000000
namespace Go.Proofs.YtpcobefhgkiolaaGreatDoor
open Go.RowKit
def bat (lt:List Ce→List Ce→Bool) (E:Nat) (l:List UInt8) (kinds:List Int) (k:Nat):List Bp × Nat × Nat:=if E≠0 then ([],k,E) else btRd lt l kinds k
def btFin (lt:List Ce→List Ce→Bool) (l:List UInt8) (n:Nat) (cols:List (List Ce)) (k:Nat):List Bp × Nat × Nat :=
 if (btRdWs l n k).2.2≠0 then ([],(btRdWs l n k).2.1,(btRdWs l n k).2.2)
 else if btAsc lt (btRows n cols)=false then ([],(btRdWs l n k).2.1,9)
 else ((btRows n cols).zip (btRdWs l n k).1,(btRdWs l n k).2.1,0)
def btFin2 (lt:List Ce→List Ce→Bool) (l:List UInt8) (n:Nat) (cols:List (List Ce)) (ws:List Int) (r k:Nat):List Bp × Nat × Nat :=
 if (btRdWs l r k).2.2≠0 then ([],(btRdWs l r k).2.1,(btRdWs l r k).2.2)
 else if btAsc lt (btRows n cols)=false then ([],(btRdWs l r k).2.1,9)
 else ((btRows n cols).zip (ws ++ (btRdWs l r k).1),(btRdWs l r k).2.1,0)
theorem btFin2_end {lt:List Ce→List Ce→Bool} {l:List UInt8} {n:Nat} {cols:List (List Ce)} {ws:List Int} {r k:Nat} (h:(rdU l k 18446744073709551615).2.2≠0) :
  btFin2 lt l n cols ws (r + 1) k=([],(rdU l k 18446744073709551615).2.1,(rdU l k 18446744073709551615).2.2):=by
 have e:btRdWs l (r + 1) k=([],(rdU l k 18446744073709551615).2.1,(rdU l k 18446744073709551615).2.2):=by rw [btRdWs,if_pos h]
 unfold btFin2
 rw [e,if_pos h]
theorem btFin2_zero {lt:List Ce→List Ce→Bool} {l:List UInt8} {n:Nat} {cols:List (List Ce)} {ws:List Int} {r k:Nat} (h:(rdU l k 18446744073709551615).2.2=0) (hz:zag (rdU l k 18446744073709551615).1=0) :
  btFin2 lt l n cols ws (r + 1) k=([],(rdU l k 18446744073709551615).2.1,2):=by
 have e:btRdWs l (r + 1) k=([],(rdU l k 18446744073709551615).2.1,2):=by rw [btRdWs,if_neg (fun hh=>hh h),if_pos hz]
 unfold btFin2
 rw [e,if_pos (by simp)]
theorem btFin2_go {lt:List Ce→List Ce→Bool} {l:List UInt8} {n:Nat} {cols:List (List Ce)} {ws:List Int} {r k:Nat} (h:(rdU l k 18446744073709551615).2.2=0) (hz:zag (rdU l k 18446744073709551615).1≠0) :
  btFin2 lt l n cols ws (r + 1) k=btFin2 lt l n cols (ws ++ [zag (rdU l k 18446744073709551615).1]) r (rdU l k 18446744073709551615).2.1:=by
 have e:btRdWs l (r + 1) k=if (btRdWs l r (rdU l k 18446744073709551615).2.1).2.2≠0 then ([],(btRdWs l r (rdU l k 18446744073709551615).2.1).2.1,(btRdWs l r (rdU l k 18446744073709551615).2.1).2.2) else (zag (rdU l k 18446744073709551615).1 :: (btRdWs l r (rdU l k 18446744073709551615).2.1).1,(btRdWs l r (rdU l k 18446744073709551615).2.1).2.1,0):=by
  rw [btRdWs,if_neg (fun hh=>hh h),if_neg hz]
 unfold btFin2
 rw [e]
 by_cases h2:(btRdWs l r (rdU l k 18446744073709551615).2.1).2.2≠0
 ·simp only [if_pos h2]
 ·simp only [if_neg h2]
  rw [if_neg (by simp),List.append_assoc];rfl
theorem btFin2_nil (lt:List Ce→List Ce→Bool) (l:List UInt8) (n:Nat) (cols:List (List Ce)) (ws:List Int) (k:Nat) :
  btFin2 lt l n cols ws 0 k=if btAsc lt (btRows n cols)=false then ([],k,9) else ((btRows n cols).zip ws,k,0):=by
 unfold btFin2
 rw [btRdWs,if_neg (by simp)]
 dsimp only
 rw [List.append_nil]
theorem btAsc_iff (lt:List Ce→List Ce→Bool):∀ L:List (List Ce),btAsc lt L=true ↔ ∀ j,j + 1 < L.length→lt (L.getD j []) (L.getD (j + 1) [])=true
 | []=>by simp [btAsc]
 | [_]=>by simp [btAsc]
 | a :: b :: r=>by
  rw [btAsc,Bool.and_eq_true,btAsc_iff lt (b :: r)]
  constructor
  ·rintro ⟨h1,h2⟩ j hj
   cases j with
   | zero=>exact h1
   | succ j=>exact h2 j (by simpa using hj)
  ·intro h
   exact ⟨h 0 (by simp),fun j hj=>h (j + 1) (by simpa using hj)⟩
def btCont (lt:List Ce→List Ce→Bool) (l:List UInt8) (n:Nat) (done:List (List Ce)) (kinds:List Int) (k:Nat):List Bp × Nat × Nat :=
 if (btRdCols l n kinds k).2.2≠0 then ([],(btRdCols l n kinds k).2.1,(btRdCols l n kinds k).2.2)
 else btFin lt l n (done ++ (btRdCols l n kinds k).1) (btRdCols l n kinds k).2.1
theorem btCont_nil (lt:List Ce→List Ce→Bool) (l:List UInt8) (n:Nat) (done:List (List Ce)) (k:Nat):btCont lt l n done [] k=btFin lt l n done k:=by
 unfold btCont
 rw [btRdCols,if_neg (by simp),List.append_nil]
theorem btCont_cons {lt:List Ce→List Ce→Bool} {l:List UInt8} {n:Nat} {done:List (List Ce)} {kd:Int} {r:List Int} {k:Nat} (h:(rdK l kd n k).2.2=0) :
  btCont lt l n done (kd :: r) k=btCont lt l n (done ++ [(rdK l kd n k).1]) r (rdK l kd n k).2.1:=by
 unfold btCont
 have e:btRdCols l n (kd :: r) k=if (btRdCols l n r (rdK l kd n k).2.1).2.2≠0 then ([],(btRdCols l n r (rdK l kd n k).2.1).2.1,(btRdCols l n r (rdK l kd n k).2.1).2.2) else ((rdK l kd n k).1 :: (btRdCols l n r (rdK l kd n k).2.1).1,(btRdCols l n r (rdK l kd n k).2.1).2.1,0):=by
  rw [btRdCols,if_neg (fun hh=>hh h)]
 rw [e]
 by_cases h2:(btRdCols l n r (rdK l kd n k).2.1).2.2≠0
 ·simp only [if_pos h2]
 ·simp only [if_neg h2]
  rw [if_neg (by simp),List.append_assoc];rfl
theorem btCont_end {lt:List Ce→List Ce→Bool} {l:List UInt8} {n:Nat} {done:List (List Ce)} {kd:Int} {r:List Int} {k:Nat} (h:(rdK l kd n k).2.2≠0) :
  btCont lt l n done (kd :: r) k=([],(rdK l kd n k).2.1,(rdK l kd n k).2.2):=by
 unfold btCont
 have e:btRdCols l n (kd :: r) k=([],(rdK l kd n k).2.1,(rdK l kd n k).2.2):=by rw [btRdCols,if_pos h]
 rw [e,if_pos h]
theorem btRd_cont {lt:List Ce→List Ce→Bool} {l:List UInt8} {kinds:List Int} {k:Nat} (h:(rdU l k 1024).2.2=0):btRd lt l kinds k=btCont lt l (rdU l k 1024).1 [] kinds (rdU l k 1024).2.1:=by
 unfold btRd btCont btFin
 rw [if_neg (fun hh=>hh h),List.nil_append]
theorem CES.nil9:CES []:=fun c hc=>absurd hc (by simp)
theorem CES.snoc9 {cs:List CellB} (h:CES cs) {c:CellB} (hc:ceS c):CES (cs ++ [c]):=by
 intro x hx
 rcases List.mem_append.1 hx with hx | hx
 ·exact h x hx
 ·rw [List.mem_singleton.1 hx];exact hc
theorem cesL_getD9 {cs:List CellB} {k:Nat} (hk:k < cs.length):(cesL cs).getD k (0,[])=ceL (cs.getD k default):=by
 unfold cesL;simp [List.getD,hk]
def RowsAre (ts:List TriB) (done:List (List Ce)):Prop:=∀ (i:Nat) (t:TriB),ts[i]?=some t→cesL t.2.1=(done.map fun c=>c.getD i (0,[]))∧t.2.2=0∧CES t.2.1
end Go.Proofs.YtpcobefhgkiolaaGreatDoor


/- -/
namespace Go.Proofs.YtpcobefhgkiolaaGreatDoor
open Go.RowKit Go.Shelf
abbrev batS (cs:List ColB) (l:List UInt8) (k:Nat):List Bp × Nat × Nat:=bat (ltE cs) (errS (colsL cs)) l (kindsL cs) k
theorem chk_schema {cs:List ColB} {ps:List PairB} (hP:PSO ps) (h:chkZ cs ps=0):errS (colsL cs)=0:=((chkZ_zero hP).1 h).1
theorem batS_eq {cs:List ColB} (h:errS (colsL cs)=0) (l:List UInt8) (k:Nat):batS cs l k=btRd (ltE cs) l (kindsL cs) k:=by
 unfold batS bat
 rw [if_neg (by simpa using h)]
theorem bat_put {cs:List ColB} {ps:List PairB} (hP:PSO ps) (h:chkZ cs ps=0) {l m:List UInt8} {k:Nat} (hd:l.drop k=btWr (kindsL cs) (psL ps) ++ m):batS cs l k=(psL ps,k + (btWr (kindsL cs) (psL ps)).length,0):=by
 rw [batS_eq (chk_schema hP h)]
 exact btRd_put (set_ok hP h).2 hd
theorem text_small {cs:List ColB}:∀ {ps:List PairB},(∀ p ∈ ps,errRow cs p.1=0∧CES p.1)→btText (rowsL ps)≤2048 * ps.length
 | [],_=>by simp [rowsL,btText]
 | p :: t,h=>by
  have ih:=text_small (ps:=t) (fun q hq=>h q (by simp [hq]))
  obtain ⟨h1,h2⟩:=h p (by simp)
  have hl:=(errRow_len h1).2.1
  have hc:cs.length≤8:=by have:=(errS_zero (errRow_len h1).1).2.1;rw [colsL_length] at this;exact this
  rw [rowsL_cons,btText,List.length_cons]
  have hs:sumT (cesL p.1)≤256 * (cesL p.1).length:=by
   have key:∀ r:List Ce,(∀ c ∈ r,c.2.length≤256)→sumT r≤256 * r.length:=fun r=>by
    induction r with
    | nil=>intro _;simp [sumT]
    | cons c r ih2=>intro hr;have:=ih2 (fun x hx=>hr x (by simp [hx]));have:=hr c (by simp);rw [sumT,List.length_cons];omega
   refine key _ (fun c hc9=>?_)
   obtain ⟨i,hi⟩:=List.getElem?_of_mem hc9
   obtain ⟨hi1,hi2⟩:=List.getElem?_eq_some_iff.1 hi
   rw [cesL_length] at hi1
   have hf:=row_fit h1 h2 (i:=i) (kd:=(cs[i]'(by omega)).2) (by unfold kindsL;simp [show i < cs.length by omega])
   have e:(cesL p.1).getD i (0,[])=c:=by simp [List.getD,hi]
   rw [e] at hf
   by_cases ht:(cs[i]'(by omega)).2=3∨(cs[i]'(by omega)).2=4
   ·exact (hf.text ht).2.1
   ·rw [(hf.num ht).1];simp
  rw [cesL_length] at hs
  omega
theorem wr_le {cs:List ColB} {ps:List PairB} (hP:PSO ps) (h:chkZ cs ps=0):(btWr (kindsL cs) (psL ps)).length≤12 + 10 * ps.length * (cs.length + 1) + btText (rowsL ps):=by
 have:=btWr_le (set_ok hP h).2
 rw [psL_length,psL_rows,show (kindsL cs).length=cs.length from by unfold kindsL;rw [List.length_map]] at this
 exact this
theorem wr_small {cs:List ColB} {ps:List PairB} (hP:PSO ps) (h:chkZ cs ps=0):(btWr (kindsL cs) (psL ps)).length≤2500000:=by
 have h1:=wr_le hP h
 obtain ⟨hS,hn,hs⟩:=(chkZ_zero hP).1 h
 have h2:=text_small (cs:=cs) (ps:=ps) (fun p hp=>hs.all p hp)
 have hc:cs.length≤8:=by have:=(errS_zero hS).2.1;rw [colsL_length] at this;exact this
 have h3:10 * ps.length * (cs.length + 1)≤10 * ps.length * 9:=Nat.mul_le_mul_left _ (by omega)
 omega
theorem wr_pos (cs:List ColB) (ps:List PairB):0 < (btWr (kindsL cs) (psL ps)).length:=by
 unfold btWr
 rw [List.length_append]
 have:=encU_pos (psL ps).length
 omega
end Go.Proofs.YtpcobefhgkiolaaGreatDoor


/- -/
namespace Go.Proofs.YtpcobefhgkiolaaGreatDoor
open Go.RowKit Go.Shelf
set_option maxHeartbeats 2000000 in
/-- What is asked of two pairs. -/
theorem same_pair (r1 r2:Value) (a b:List CellB) (x y:Int) (W:World) (h2:RdE W r1 a) (h3:RdE W r2 b) :
  Calls Tryz.prog 60 #[.agg #[r1,.int .i64 x],.agg #[r2,.int .i64 y]] W fun e w'=>e=.returned (.bool (decide ((a,x)=(b,y))))∧Below W.heap.size W w':=by
 obtain ⟨ao,n,cap,rfl⟩:=h2.lit
 obtain ⟨ao',n',cap',rfl⟩:=h3.lit
 obtain ⟨N0,N1,N2,N3⟩:=new2 W (.cells #[.slice ao n cap,.int .i64 x] 78) (.cells #[.slice ao' n' cap',.int .i64 y] 78)
 have CK:=h_ (row_Same _ _ a b _ (h2.later N3 l_) (h3.later N3 l_))
 have NB:=h_ N3
 clear N0 N1 N2 N3 h2 h3
 by_cases hxy:x=y
 ·subst hxy
  have hd:decide ((a,x)=(b,x))=decide (a=b):=by
   by_cases e:a=b
   ·subst e;simp
   ·rw [decide_eq_false e,decide_eq_false (fun h=>e (Prod.mk.inj h).1)]
  rw [hd]
  obtain ⟨c,hcc⟩:∃ c,c=decide (a=b):=⟨_,rfl⟩
  rw [← hcc] at CK ⊢
  have hq:(x == x)=true:=by simp
  clear hcc hd
  go_enter Tryz.func60,Tryz.ntmps60
  go_wp2_with fail
  refine CK.out.mono ?_
  rintro e w1 ⟨rfl,hb⟩
  have HB:=h_ (NB.out.trans (hb.mono NB.out.size))
  clear hb CK
  go_wp2
  go_ret
  exact ⟨rfl,HB.out⟩
 ·have hq:(x == y)=false:=by rw [beq_eq_false_iff_ne];exact hxy
  rw [decide_eq_false (fun h:(a,x)=(b,y)=>hxy (Prod.mk.inj h).2)]
  clear CK hxy
  go_enter Tryz.func60,Tryz.ntmps60
  go_wp2
  go_ret
  exact ⟨rfl,NB.out⟩
set_option maxHeartbeats 4000000 in
theorem pairs_EqualFunc (v1 v2:Value) (ps qs:List PairB) (w:World) (h1:RdP w v1 ps) (h2:RdP w v2 qs) :
  Calls Tryz.prog 59 #[v1,v2,.func (.func 60) #[] #[]] w fun e w'=>e=.returned (.bool (decide (ps=qs)))∧Below w.heap.size w w':=by
 have hl1:=h1.len
 have hl2:=h2.len
 have hs1:=h1.small
 have hs2:=h2.small
 have H1:=h_ h1
 have H2:=h_ h2
 clear h1 h2
 by_cases hln:ps.length=qs.length
 ·obtain ⟨n,hn⟩:∃ n,n=ps.length:=⟨_,rfl⟩
  rw [← hln] at hl2 hs2
  rw [← hn] at hl1 hl2 hs1 hs2
  have HN:=h_ hn
  have HL:=h_ hln
  clear hln hn
  go_enter Tryz.func59,Tryz.ntmps59
  go_wp2
  go_loopw [17] (fun i wr=>∃ k:Nat,k≤n∧i=.int .i64 k∧Hid (ps.take k=qs.take k)∧Hid (Below w.heap.size w wr)) (fun i _=>n - (intOf i).toNat)
  case atStart=>exact ⟨0,by omega,rfl,h_ (by simp),h_ (Below.refl _ _)⟩
  case round =>
   obtain ⟨k,hk,rfl,HE,HB⟩:=hrel
   by_cases hlt:k < n
   ·have k1:k < ps.length:=by rw [← HN.out];exact hlt
    have k2:k < qs.length:=by rw [← HL.out];exact k1
    obtain ⟨b,o,rv,hi,c0,c1,re,hbl⟩:=H1.out.get k1
    obtain ⟨b',o',rv',hi',c0',c1',re',hbl'⟩:=H2.out.get k2
    obtain ⟨ao,nn,cap,rfl⟩:=re.lit
    obtain ⟨ao',nn',cap',rfl⟩:=re'.lit
    have HT:=h_ (show ps.take (k + 1)=ps.take k ++ [ps.getD k default] from by rw [List.take_add_one];simp [List.getD,k1])
    have HT':=h_ (show qs.take (k + 1)=qs.take k ++ [qs.getD k default] from by rw [List.take_add_one];simp [List.getD,k2])
    have HNE:=h_ (fun e:ps=qs=>show ps.getD k default=qs.getD k default by rw [e])
    obtain ⟨p,hp⟩:∃ p,p=ps.getD k default:=⟨_,rfl⟩
    obtain ⟨p',hp'⟩:∃ p',p'=qs.getD k default:=⟨_,rfl⟩
    rw [← hp] at c1 re HT HNE
    rw [← hp'] at c1' re' HT' HNE
    rcases p with ⟨r1,x⟩
    rcases p' with ⟨r2,y⟩
    dsimp only at c1 re c1' re'
    have hc0:=(HB.out.cell (p:=⟨b,o,none⟩) hbl).trans c0
    have hc1:=(HB.out.cell (p:=⟨b,o + 1,none⟩) hbl).trans c1
    have hc0':=(HB.out.cell (p:=⟨b',o',none⟩) hbl').trans c0'
    have hc1':=(HB.out.cell (p:=⟨b',o' + 1,none⟩) hbl').trans c1'
    have hbw:b' < wr.heap.size:=Nat.lt_of_lt_of_le hbl' HB.out.size
    have NN:=h_ (new2 wr (.cells #[.slice ao nn cap,.int .i64 x] 78) (.cells #[.slice ao' nn' cap',.int .i64 y] 78))
    have HBN:=h_ (HB.out.trans (NN.out.2.2.2.mono HB.out.size))
    have SS:=h_ (same_pair _ _ r1 r2 x y _ (re.later HBN.out l_) (re'.later HBN.out l_))
    clear hp hp' k1 k2 re re' c0 c1 c0' c1'
    by_cases hpq:(r1,x)=(r2,y)
    ·have hdd:decide ((r1,x)=(r2,y))=true:=decide_eq_true hpq
     rw [hdd] at SS
     have HE2:=h_ (show ps.take (k + 1)=qs.take (k + 1) from by rw [HT.out,HT'.out,HE.out,hpq])
     clear hdd hpq HNE
     go_wp2_with fail
     refine SS.out.mono ?_
     rintro e w3 ⟨rfl,hb⟩
     have HB4:=h_ (HBN.out.trans (hb.mono HBN.out.size))
     clear hb SS hc0 hc1 hc0' hc1' NN HBN
     go_wp2
     go_roundw
     case rel=>exact ⟨k + 1,by omega,by go_num,HE2,HB4⟩
     case measure=>simp [intOf];omega
    ·have hdd:decide ((r1,x)=(r2,y))=false:=decide_eq_false hpq
     rw [hdd] at SS
     have HF:=h_ (show decide (ps=qs)=false from decide_eq_false (fun e=>hpq (HNE.out e)))
     clear hdd hpq HNE
     go_wp2_with fail
     refine SS.out.mono ?_
     rintro e w3 ⟨rfl,hb⟩
     have HB4:=h_ (HBN.out.trans (hb.mono HBN.out.size))
     clear hb SS hc0 hc1 hc0' hc1' NN HBN
     go_wp2
     go_ret
     exact ⟨by rw [HF.out];rfl,HB4.out⟩
   ·obtain rfl:k=n:=by omega
    have HF:=h_ (show decide (ps=qs)=true from decide_eq_true (by
     have h:=HE.out
     rwa [List.take_of_length_le (by rw [← HN.out];exact l_),List.take_of_length_le (by rw [← HL.out,← HN.out];exact l_)] at h))
    go_wp2
    go_ret
    exact ⟨by rw [HF.out];rfl,HB.out⟩
 ·have HF:=h_ (show decide (ps=qs)=false from decide_eq_false (fun e=>hln (by rw [e])))
  obtain ⟨n,hn⟩:∃ n,n=ps.length:=⟨_,rfl⟩
  obtain ⟨m,hm⟩:∃ m,m=qs.length:=⟨_,rfl⟩
  rw [← hn] at hl1 hs1 hln
  rw [← hm] at hl2 hs2 hln
  have hne:((n:Int) != (m:Int))=true:=by rw [bne_iff_ne];omega
  clear hn hm H1 H2
  go_enter Tryz.func59,Tryz.ntmps59
  go_wp2
  go_ret
  exact ⟨by rw [HF.out];rfl,Below.refl _ _⟩
theorem zset_Same (v1 v2:Value) (ps qs:List PairB) (w:World) (h1:RdP w v1 ps) (h2:RdP w v2 qs) :
  Calls Tryz.prog 31 #[v1,v2] w fun e w'=>e=.returned (.bool (decide (ps=qs)))∧Below w.heap.size w w':=by
 have CK:=h_ (pairs_EqualFunc v1 v2 ps qs w h1 h2)
 obtain ⟨c,hc⟩:∃ c,c=decide (ps=qs):=⟨_,rfl⟩
 rw [← hc] at CK ⊢
 clear hc h1 h2
 go_enter Tryz.func31,Tryz.ntmps31
 go_wp2_with fail
 refine CK.out.mono ?_
 rintro e w1 ⟨rfl,hb⟩
 have HB:=h_ hb
 clear hb CK
 go_wp2
 go_ret
 exact ⟨rfl,HB.out⟩
end Go.Proofs.YtpcobefhgkiolaaGreatDoor

