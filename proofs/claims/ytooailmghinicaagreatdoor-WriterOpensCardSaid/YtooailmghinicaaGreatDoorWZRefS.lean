/- -/
import Derived.Test.YtooailmghinicaaGreatDoorWCrc
set_option linter.unusedVariables false
set_option linter.unusedSimpArgs false
set_option maxRecDepth 1000000
namespace Go.Proofs.YtooailmghinicaaGreatDoor
open _root_.Go.Proofs.Tryz
open Go.RowKit Go.Shelf
/- -/
def zb3 (t:TriB):List Value:=[t.1,.int .i64 (paH t.2.2),.int .i64 (paL t.2.2)]
def zc4:Elt:=⟨279,283,3,40,.agg #[.slice none 0 0,.int .i64 0,.int .i64 0]⟩
theorem ze9:zc4.Ok:=⟨underlying279,by kernel_rfl,by kernel_rfl,rfl,by decide⟩
section
variable {w w':World} {base:Nat}
theorem zjM (ts:List TriB) (h:∀ t ∈ ts,t.1.oneCell'=true):∀ x ∈ ts.map zb3,∀ u ∈ x,u.oneCell'=true:=by
 intro x hx u hu;obtain ⟨t,ht,rfl⟩:=List.mem_map.1 hx;simp [zb3] at hu;rcases hu with rfl | rfl | rfl
 ·exact h t ht
 ·rfl
 rfl
theorem zdS {ts us:List TriB} {ops:Array Oper} {Q:Exit->Act->World->Prop} {rest:List Oper} {a:Act} {dst:Option Tmp} {ty:TypeId} {pos:String} {aft:Array Edge} {s x:Operand}
  (base:Nat) (sv:Value) (hs:a.eval s=sv) (ho:OwnG zc4 w base sv (ts.map zb3)) (xv:Value) (hx:a.eval x=xv) (hr:RdG zc4 w xv (us.map zb3)) (h1:∀ t ∈ us,t.1.oneCell'=true)
  (hn:ts.length + us.length<=100000) (hbase:base<=w.heap.size)
  (B:Nat) (w0:World) (hb:Below B w0 w) (hBb:B<=base)
  (h:∀ v' w',OwnG zc4 w' base v' ((ts ++ us).map zb3)->Below B w0 w'->w.grownBy w' sv.ownBlock->wpList prog ops Q rest (a.put dst v') w') :
  wpList prog ops Q (⟨dst,.call ⟨.builtin .append,#[s,x],#[279,279]⟩,ty,pos,aft,none⟩ :: rest) a w :=
 zc0 (E:=zc4) ze9 base sv hs ho xv hx hr (zjM us h1) (by rw [List.length_map,List.length_map];simp [zc4];omega) (by rw [List.length_map,List.length_map];omega) hbase B w0 hb hBb
  (fun v' w' h1 h2 h3=>h v' w' (by rw [List.map_append];exact h1) h2 h3)
theorem ownQ_empty (w:World) (base:Nat) (hb:base<=w.heap.size):OwnG zc4 (w.alloc (.cells #[] 283)) base (.slice (some ⟨w.heap.size,0,none⟩) 0 0) (([]:List TriB).map zb3):=zdF zc4 w base hb
theorem rdQ_one (w:World) (t:TriB):RdG zc4 (w.alloc (.cells #[t.1,.int .i64 (paH t.2.2),.int .i64 (paL t.2.2)] 283)) (.slice (some ⟨w.heap.size,0,none⟩) 1 1) ([t].map zb3):=by
 refine zfN ze9 (zb3 t) rfl ⟨w.heap.size,0,none⟩ ⟨_,_,rfl⟩ fun j z hj=>?_;have e:Addr.add ⟨w.heap.size,0,none⟩ j=⟨w.heap.size,j,none⟩:=by simp only [Addr.add];split <;> simp_all
 rw [e,cell_of_row _ _ _ _ _ _ (heap_alloc_new _ _)];simpa [zb3] using hj
theorem partV_get {ts:List TriB} {k:Nat} (hk:k < ts.length):(ts.map zb3).getD k []=zb3 (ts.getD k default):=by
 simp [List.getD,hk]
theorem partAt {v:Value} {ts:List TriB} (h:OwnG zc4 w base v (ts.map zb3)) (hs:ts.length<=100000) {k:Nat} (hk:k < ts.length):∃ g o,
  base<=g/\(∀ u,(Instr.indexAt 279 v (.int .i64 (k:Int))).run prog u=.ok (.pointer (some ⟨g,o,none⟩)) u) /\
  ∀ (w':World) (us:List TriB),us.length=ts.length->OwnG zc4 w' base v (us.map zb3) ->
   w'.cell? ⟨g,o,none⟩=some (us.getD k default).1/\w'.cell? ⟨g,o + 1,none⟩=some (.int .i64 (paH (us.getD k default).2.2))/\w'.cell? ⟨g,o + 2,none⟩=some (.int .i64 (paL (us.getD k default).2.2)) /\
   w'.frozen? ⟨g,o + 1,none⟩=false/\w'.frozen? ⟨g,o + 2,none⟩=false /\
   ∀ X:Int,(w'.setCell ⟨g,o + 1,none⟩ (.int .i64 (paH X))).cell? ⟨g,o + 2,none⟩=some (.int .i64 (paL (us.getD k default).2.2))/\(w'.setCell ⟨g,o + 1,none⟩ (.int .i64 (paH X))).frozen? ⟨g,o + 2,none⟩=false /\
    OwnG zc4 ((w'.setCell ⟨g,o + 1,none⟩ (.int .i64 (paH X))).setCell ⟨g,o + 2,none⟩ (.int .i64 (paL X))) base v ((us.set k ((us.getD k default).1,((us.getD k default).2.1,X))).map zb3):=by
 obtain ⟨g,cap,hv,hbg,hix,hsp⟩:=OwnG.spot ze9 h (by rw [List.length_map];omega) (by rw [List.length_map];omega)
 rw [List.length_map] at hix hsp
 refine ⟨g,k * 3,hbg,fun u=>hix k hk u,fun w' us hl ho=>?_⟩
 obtain ⟨_,h3⟩:=hsp w' (us.map zb3) (by rw [List.length_map];exact hl) ho k hk
 rw [partV_get (by omega)] at h3
 have a0:=h3 0 (by decide)
 have a1:=h3 1 (by decide)
 have a2:=h3 2 (by decide)
 have hn:zc4.n=3:=rfl
 rw [hn] at a0 a1 a2
 refine ⟨by simpa [zb3] using a0.1,by simpa [zb3] using a1.1,by simpa [zb3] using a2.1,a1.2.1,a2.2.1,fun X=>?_⟩
 have o1:=a1.2.2 (.int .i64 (paH X)) rfl
 obtain ⟨_,h4⟩:=hsp _ _ (by rw [List.length_set,List.length_map];exact hl) o1 k hk
 have b2:=h4 2 (by decide)
 have eg:(((us.map zb3).set k ((zb3 (us.getD k default)).set 1 (.int .i64 (paH X)))).getD k [])=[(us.getD k default).1,.int .i64 (paH X),.int .i64 (paL (us.getD k default).2.2)]:=by
  have hku:k < us.length:=by omega
  simp [List.getD,zb3,hku]
 rw [eg,hn] at b2
 refine ⟨by simpa using b2.1,b2.2.1,?_⟩
 have o2:=b2.2.2 (.int .i64 (paL X)) rfl
 have em:((us.map zb3).set k ((zb3 (us.getD k default)).set 1 (.int .i64 (paH X)))).set k ([(us.getD k default).1,.int .i64 (paH X),.int .i64 (paL (us.getD k default).2.2)].set 2 (.int .i64 (paL X)))=(us.set k ((us.getD k default).1,((us.getD k default).2.1,X))).map zb3:=by
  rw [List.set_set,List.map_set];rfl
 rw [em] at o2
 exact o2
end
theorem rdQ_cells (w:World) (t:TriB):∀ j z,(zb3 t)[j]?=some z->(w.alloc (.cells #[t.1,.int .i64 (paH t.2.2),.int .i64 (paL t.2.2)] 283)).cell? (Addr.add ⟨w.heap.size,0,none⟩ j)=some z:=by
 intro j z hj;have e:Addr.add ⟨w.heap.size,0,none⟩ j=⟨w.heap.size,j,none⟩:=by simp only [Addr.add];split <;> simp_all
 rw [e,cell_of_row _ _ _ _ _ _ (heap_alloc_new _ _)];simpa [zb3] using hj
theorem firstE_at {cs:List ColB} {ps:List PairB}:∀ {k:Nat},k < ps.length->(∀ p ∈ ps.take k,errRow cs p.1=0)->errRow cs (ps.getD k default).1≠0->firstE cs ps=errRow cs (ps.getD k default).1:=by
 induction ps with
 | nil=>intro k h;simp at h
 | cons p t ih =>
  intro k h h0 h1;cases k with
  | zero =>
   simp at h1;unfold firstE;rw [if_pos h1];simp
  | succ k =>
   have hp:errRow cs p.1=0:=h0 p (by simp);unfold firstE;rw [if_neg (fun h9=>h9 hp)];have:=ih (k:=k) (by simpa using h) (fun q hq=>h0 q (by simp [hq])) (by simpa using h1);simpa using this
theorem zeY (ps:List PairB) (k:Nat) (h:k < ps.length):ps.take (k + 1)=ps.take k ++ [ps.getD k default]:=by
 rw [List.take_add_one];simp [List.getD,h]
theorem rows_snoc {cs:List ColB} {ps:List PairB} {k:Nat} (h:k < ps.length) (h0:∀ p ∈ ps.take k,errRow cs p.1=0) (h1:errRow cs (ps.getD k default).1=0):∀ p ∈ ps.take (k + 1),errRow cs p.1=0:=by
 rw [zeY ps k h];intro p hp;rcases List.mem_append.1 hp with hp | hp
 ·exact h0 p hp
 rw [List.mem_singleton.1 hp];exact h1
theorem sumW_bound {ps:List PairB} (hP:PSO ps) (r:List CellB):-(9223372036854775808 * (ps.length:Int))<=Z.sumW ps r/\Z.sumW ps r<=9223372036854775808 * (ps.length:Int):=by
 induction ps with
 | nil=>simp [Z.sumW]
 | cons p t ih =>
  have ih:=ih (hP.sub (fun x hx=>by simp [hx]));have hp:=(hP p (by simp)).2;unfold inW at hp;simp only [Z.sumW,List.length_cons];push_cast;split <;> omega
theorem parts_paOk {cs:List ColB} {ps:List PairB} (hP:PSO ps) (hV:∀ p ∈ ps,errRow cs p.1=0) (hl:ps.length<=4000):∀ p ∈ zcZ cs ps,paOk p.2 :=
 (Z.parts_all (zbK cs) (allV_of hP hV) (I:=paOk) ⟨by omega,by omega⟩).2 fun r=>by
  have:=sumW_bound hP r
  unfold paOk
  omega
theorem parts_len {cs:List ColB}:∀ (ps acc:List PairB),(Z.partsFrom (cmpR cs) acc ps).length<=acc.length + ps.length
 | [],acc=>by simp [Z.partsFrom]
 | p :: t,acc=>by
  have h1:=parts_len (cs:=cs) t (Z.ins (cmpR cs) p.1 p.2 acc)
  have h2:∀ l:List PairB,(Z.ins (cmpR cs) p.1 p.2 l).length<=l.length + 1:=fun l=>by
   induction l with
   | nil=>simp [Z.ins]
   | cons q r ih =>
    simp only [Z.ins]
    split
    ·simp;omega
    ·split <;> simp
  have:=h2 acc
  show (Z.partsFrom (cmpR cs) (Z.ins (cmpR cs) p.1 p.2 acc) t).length<=_
  simp;omega
theorem ins_newT {cs:List ColB} {ts:List TriB} {rv:Value} {r:List CellB} {x:Int} {j:Nat} (hj:j<=ts.length) (h0:∀ i,i < j->cmpR cs (ts.getD i default).2.1 r < 0)
  (h:j < ts.length->0<=cmpR cs (ts.getD j default).2.1 r/\(ts.getD j default).2.1≠r):(ts.take j ++ (rv,(r,x)) :: ts.drop j).map (·.2)=Z.ins (cmpR cs) r x (ts.map (·.2)):=by
 have g:∀ i (hi:i < ts.length),(ts.map (·.2))[i]'(by simpa using hi)=(ts.getD i default).2:=fun i hi=>by simp [List.getD,hi]
 rw [Z.ins_new (j:=j) (by simpa using hj) (fun i hi hij=>by rw [g i (by simpa using hi)];exact h0 i hij) (fun hj'=>by rw [g j (by simpa using hj')];have:=h (by simpa using hj');exact ⟨by omega,this.2⟩)];simp [List.map_take,List.map_drop]
theorem ins_addT {cs:List ColB} {ts:List TriB} {r:List CellB} {x:Int} {j:Nat} (hj:j < ts.length) (h0:∀ i,i < j->cmpR cs (ts.getD i default).2.1 r < 0)
  (h:0<=cmpR cs (ts.getD j default).2.1 r) (h2:(ts.getD j default).2.1=r):(ts.set j ((ts.getD j default).1,((ts.getD j default).2.1,(ts.getD j default).2.2 + x))).map (·.2)=Z.ins (cmpR cs) r x (ts.map (·.2)):=by
 have g:∀ i (hi:i < ts.length),(ts.map (·.2))[i]'(by simpa using hi)=(ts.getD i default).2:=fun i hi=>by simp [List.getD,hi]
 rw [Z.ins_add (j:=j) (by simpa using hj) (fun i hi hij=>by rw [g i (by simpa using hi)];exact h0 i hij) (by rw [g j hj];omega) (by rw [g j hj];exact h2),g j hj,List.map_set]
theorem overB_snoc (ps:List PairB) (k:Nat) (h:k < ps.length) (h0:overB (ps.take k)=false):overB (ps.take (k + 1))=(wE (ps.getD k default).2 != 0):=by
 unfold overB at h0 ⊢;rw [zeY ps k h,List.any_append,h0];simp
theorem overB_take {ps:List PairB} {k:Nat} (h:overB (ps.take k)=true):overB ps=true:=by
 unfold overB at h ⊢;obtain ⟨p,hp,h⟩:=List.any_eq_true.1 h;exact List.any_eq_true.2 ⟨p,List.mem_of_mem_take hp,h⟩
theorem nz_snoc (ps:List PairB) (k:Nat) (h:k < ps.length):Z.nz (ps.take (k + 1))=Z.nz (ps.take k) ++ (if (ps.getD k default).2=0 then [] else [ps.getD k default]):=by
 unfold Z.nz;rw [zeY ps k h,List.filter_append];congr 1;by_cases h0:(ps.getD k default).2=0
 ·rw [if_pos h0,List.filter_cons_of_neg (by simp only [h0];decide)];rfl
 rw [if_neg h0,List.filter_cons_of_pos (by rw [bne_iff_ne];exact h0)];rfl
theorem wE_in0 {x:Int} (h:i64 x):wE x=0:=if_pos h
theorem wE_out0 {x:Int} (h:¬ i64 x):wE x=12:=if_neg h
theorem wV_in0 {x:Int} (h:i64 x):wV x=x:=if_pos h
theorem wV_out0 {x:Int} (h:¬ i64 x):wV x=0:=if_neg h
/- -/
