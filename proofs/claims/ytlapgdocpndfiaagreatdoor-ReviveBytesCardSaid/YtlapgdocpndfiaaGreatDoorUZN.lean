/- -/
import Derived.Test.YtlapgdocpndfiaaGreatDoorUCrc
set_option maxHeartbeats 16000000
set_option linter.unusedVariables false
set_option linter.unusedSimpArgs false
set_option maxRecDepth 1000000
namespace Go.Proofs.YtlapgdocpndfiaaGreatDoor
open _root_.Go.Proofs.Tryz
open Go.RowKit Go.Shelf
/- -/
def zb0 (t:TriB):List Value:=[t.1,.int .i64 (paH t.2.2),.int .i64 (paL t.2.2)]
def zc4:Elt:=⟨184,189,3,40,.agg #[.slice none 0 0,.int .i64 0,.int .i64 0]⟩
theorem zdU:zc4.Ok:=⟨underlying184,by kernel_rfl,by kernel_rfl,rfl,by decide⟩
section
variable {w w':World} {base:Nat}
theorem zjG (ts:List TriB) (h:∀ t ∈ ts,t.1.oneCell'=true):∀ x ∈ ts.map zb0,∀ u ∈ x,u.oneCell'=true:=by
 intro x hx u hu;obtain ⟨t,ht,rfl⟩:=List.mem_map.1 hx;simp [zb0] at hu;rcases hu with rfl | rfl | rfl
 ·exact h t ht
 ·rfl
 rfl
theorem zdG {ts us:List TriB} {ops:Array Oper} {Q:Exit->Act->World->Prop} {rest:List Oper} {a:Act} {dst:Option Tmp} {ty:TypeId} {pos:String} {aft:Array Edge} {s x:Operand}
  (base:Nat) (sv:Value) (hs:a.eval s=sv) (ho:OwnG zc4 w base sv (ts.map zb0)) (xv:Value) (hx:a.eval x=xv) (hr:RdG zc4 w xv (us.map zb0)) (h1:∀ t ∈ us,t.1.oneCell'=true)
  (hn:ts.length + us.length<=100000) (hbase:base<=w.heap.size)
  (B:Nat) (w0:World) (hb:Below B w0 w) (hBb:B<=base)
  (h:∀ v' w',OwnG zc4 w' base v' ((ts ++ us).map zb0)->Below B w0 w'->w.grownBy w' sv.ownBlock->wpList prog ops Q rest (a.put dst v') w') :
  wpList prog ops Q (⟨dst,.call ⟨.builtin .append,#[s,x],#[184,184]⟩,ty,pos,aft,none⟩ :: rest) a w :=
 zc2 (E:=zc4) zdU base sv hs ho xv hx hr (zjG us h1) (by rw [List.length_map,List.length_map];simp [zc4];omega) (by rw [List.length_map,List.length_map];omega) hbase B w0 hb hBb
  (fun v' w' h1 h2 h3=>h v' w' (by rw [List.map_append];exact h1) h2 h3)
theorem zlQ (w:World) (base:Nat) (hb:base<=w.heap.size):OwnG zc4 (w.alloc (.cells #[] 189)) base (.slice (some ⟨w.heap.size,0,none⟩) 0 0) (([]:List TriB).map zb0):=zd6 zc4 w base hb
theorem zFV (w:World) (t:TriB):RdG zc4 (w.alloc (.cells #[t.1,.int .i64 (paH t.2.2),.int .i64 (paL t.2.2)] 189)) (.slice (some ⟨w.heap.size,0,none⟩) 1 1) ([t].map zb0):=by
 refine zgS zdU (zb0 t) rfl ⟨w.heap.size,0,none⟩ ⟨_,_,rfl⟩ fun j z hj=>?_;have e:Addr.add ⟨w.heap.size,0,none⟩ j=⟨w.heap.size,j,none⟩:=by simp only [Addr.add];split <;> simp_all
 rw [e,cell_of_row _ _ _ _ _ _ (heap_alloc_new _ _)];simpa [zb0] using hj
theorem zxY {ts:List TriB} {k:Nat} (hk:k < ts.length):(ts.map zb0).getD k []=zb0 (ts.getD k default):=by
 simp [List.getD,hk]
theorem partAt {v:Value} {ts:List TriB} (h:OwnG zc4 w base v (ts.map zb0)) (hs:ts.length<=100000) {k:Nat} (hk:k < ts.length):∃ g o,
  base<=g/\(∀ u,(Instr.indexAt 184 v (.int .i64 (k:Int))).run prog u=.ok (.pointer (some ⟨g,o,none⟩)) u) /\
  ∀ (w':World) (us:List TriB),us.length=ts.length->OwnG zc4 w' base v (us.map zb0) ->
   w'.cell? ⟨g,o,none⟩=some (us.getD k default).1/\w'.cell? ⟨g,o + 1,none⟩=some (.int .i64 (paH (us.getD k default).2.2))/\w'.cell? ⟨g,o + 2,none⟩=some (.int .i64 (paL (us.getD k default).2.2)) /\
   w'.frozen? ⟨g,o + 1,none⟩=false/\w'.frozen? ⟨g,o + 2,none⟩=false /\
   ∀ X:Int,(w'.setCell ⟨g,o + 1,none⟩ (.int .i64 (paH X))).cell? ⟨g,o + 2,none⟩=some (.int .i64 (paL (us.getD k default).2.2))/\(w'.setCell ⟨g,o + 1,none⟩ (.int .i64 (paH X))).frozen? ⟨g,o + 2,none⟩=false /\
    OwnG zc4 ((w'.setCell ⟨g,o + 1,none⟩ (.int .i64 (paH X))).setCell ⟨g,o + 2,none⟩ (.int .i64 (paL X))) base v ((us.set k ((us.getD k default).1,((us.getD k default).2.1,X))).map zb0):=by
 obtain ⟨g,cap,hv,hbg,hix,hsp⟩:=OwnG.spot zdU h (by rw [List.length_map];omega) (by rw [List.length_map];omega)
 rw [List.length_map] at hix hsp
 refine ⟨g,k * 3,hbg,fun u=>hix k hk u,fun w' us hl ho=>?_⟩
 obtain ⟨_,h3⟩:=hsp w' (us.map zb0) (by rw [List.length_map];exact hl) ho k hk
 rw [zxY (by omega)] at h3
 have a0:=h3 0 (by decide)
 have a1:=h3 1 (by decide)
 have a2:=h3 2 (by decide)
 have hn:zc4.n=3:=rfl
 rw [hn] at a0 a1 a2
 refine ⟨by simpa [zb0] using a0.1,by simpa [zb0] using a1.1,by simpa [zb0] using a2.1,a1.2.1,a2.2.1,fun X=>?_⟩
 have o1:=a1.2.2 (.int .i64 (paH X)) rfl
 obtain ⟨_,h4⟩:=hsp _ _ (by rw [List.length_set,List.length_map];exact hl) o1 k hk
 have b2:=h4 2 (by decide)
 have eg:(((us.map zb0).set k ((zb0 (us.getD k default)).set 1 (.int .i64 (paH X)))).getD k [])=[(us.getD k default).1,.int .i64 (paH X),.int .i64 (paL (us.getD k default).2.2)]:=by
  have hku:k < us.length:=by omega
  simp [List.getD,zb0,hku]
 rw [eg,hn] at b2
 refine ⟨by simpa using b2.1,b2.2.1,?_⟩
 have o2:=b2.2.2 (.int .i64 (paL X)) rfl
 have em:((us.map zb0).set k ((zb0 (us.getD k default)).set 1 (.int .i64 (paH X)))).set k ([(us.getD k default).1,.int .i64 (paH X),.int .i64 (paL (us.getD k default).2.2)].set 2 (.int .i64 (paL X)))=(us.set k ((us.getD k default).1,((us.getD k default).2.1,X))).map zb0:=by
  rw [List.set_set,List.map_set];rfl
 rw [em] at o2
 exact o2
end
theorem zoY (w:World) (t:TriB):∀ j z,(zb0 t)[j]?=some z->(w.alloc (.cells #[t.1,.int .i64 (paH t.2.2),.int .i64 (paL t.2.2)] 189)).cell? (Addr.add ⟨w.heap.size,0,none⟩ j)=some z:=by
 intro j z hj;have e:Addr.add ⟨w.heap.size,0,none⟩ j=⟨w.heap.size,j,none⟩:=by simp only [Addr.add];split <;> simp_all
 rw [e,cell_of_row _ _ _ _ _ _ (heap_alloc_new _ _)];simpa [zb0] using hj
theorem zyY {cs:List ColB} {ps:List PairB}:∀ {k:Nat},k < ps.length->(∀ p ∈ ps.take k,errRow cs p.1=0)->errRow cs (ps.getD k default).1≠0->firstE cs ps=errRow cs (ps.getD k default).1:=by
 induction ps with
 | nil=>intro k h;simp at h
 | cons p t ih =>
  intro k h h0 h1;cases k with
  | zero =>
   simp at h1;unfold firstE;rw [if_pos h1];simp
  | succ k =>
   have hp:errRow cs p.1=0:=h0 p (by simp);unfold firstE;rw [if_neg (fun h9=>h9 hp)];have:=ih (k:=k) (by simpa using h) (fun q hq=>h0 q (by simp [hq])) (by simpa using h1);simpa using this
theorem zeI (ps:List PairB) (k:Nat) (h:k < ps.length):ps.take (k + 1)=ps.take k ++ [ps.getD k default]:=by
 rw [List.take_add_one];simp [List.getD,h]
theorem zx7 {cs:List ColB} {ps:List PairB} {k:Nat} (h:k < ps.length) (h0:∀ p ∈ ps.take k,errRow cs p.1=0) (h1:errRow cs (ps.getD k default).1=0):∀ p ∈ ps.take (k + 1),errRow cs p.1=0:=by
 rw [zeI ps k h];intro p hp;rcases List.mem_append.1 hp with hp | hp
 ·exact h0 p hp
 rw [List.mem_singleton.1 hp];exact h1
theorem zu8 {ps:List PairB} (hP:PSO ps) (r:List CellB):-(9223372036854775808 * (ps.length:Int))<=Z.sumW ps r/\Z.sumW ps r<=9223372036854775808 * (ps.length:Int):=by
 induction ps with
 | nil=>simp [Z.sumW]
 | cons p t ih =>
  have ih:=ih (hP.sub (fun x hx=>by simp [hx]));have hp:=(hP p (by simp)).2;unfold inW at hp;simp only [Z.sumW,List.length_cons];push_cast;split <;> omega
theorem zuW {cs:List ColB} {ps:List PairB} (hP:PSO ps) (hV:∀ p ∈ ps,errRow cs p.1=0) (hl:ps.length<=4000):∀ p ∈ zcU cs ps,paOk p.2 :=
 (Z.parts_all (zbF cs) (zsC hP hV) (I:=paOk) ⟨by omega,by omega⟩).2 fun r=>by
  have:=zu8 hP r
  unfold paOk
  omega
theorem zp4 {cs:List ColB}:∀ (ps acc:List PairB),(Z.partsFrom (cmpR cs) acc ps).length<=acc.length + ps.length
 | [],acc=>by simp [Z.partsFrom]
 | p :: t,acc=>by
  have h1:=zp4 (cs:=cs) t (Z.ins (cmpR cs) p.1 p.2 acc)
  have h2:∀ l:List PairB,(Z.ins (cmpR cs) p.1 p.2 l).length<=l.length + 1:=fun l=>by
   induction l with
   | nil=>simp [Z.ins]
   | cons q r ih =>
    simp only [Z.ins]
    split
    ·simp;omega
    ·split <;> simp
  have:=h2 acc
  show (Z.partsFrom (cmpR cs) (Z.ins (cmpR cs) p.1 p.2 acc) t).length<=_
  simp;omega
theorem ztH {cs:List ColB} {ts:List TriB} {rv:Value} {r:List CellB} {x:Int} {j:Nat} (hj:j<=ts.length) (h0:∀ i,i < j->cmpR cs (ts.getD i default).2.1 r < 0)
  (h:j < ts.length->0<=cmpR cs (ts.getD j default).2.1 r/\(ts.getD j default).2.1≠r):(ts.take j ++ (rv,(r,x)) :: ts.drop j).map (·.2)=Z.ins (cmpR cs) r x (ts.map (·.2)):=by
 have g:∀ i (hi:i < ts.length),(ts.map (·.2))[i]'(by simpa using hi)=(ts.getD i default).2:=fun i hi=>by simp [List.getD,hi]
 rw [Z.ins_new (j:=j) (by simpa using hj) (fun i hi hij=>by rw [g i (by simpa using hi)];exact h0 i hij) (fun hj'=>by rw [g j (by simpa using hj')];have:=h (by simpa using hj');exact ⟨by omega,this.2⟩)];simp [List.map_take,List.map_drop]
theorem zBE {cs:List ColB} {ts:List TriB} {r:List CellB} {x:Int} {j:Nat} (hj:j < ts.length) (h0:∀ i,i < j->cmpR cs (ts.getD i default).2.1 r < 0)
  (h:0<=cmpR cs (ts.getD j default).2.1 r) (h2:(ts.getD j default).2.1=r):(ts.set j ((ts.getD j default).1,((ts.getD j default).2.1,(ts.getD j default).2.2 + x))).map (·.2)=Z.ins (cmpR cs) r x (ts.map (·.2)):=by
 have g:∀ i (hi:i < ts.length),(ts.map (·.2))[i]'(by simpa using hi)=(ts.getD i default).2:=fun i hi=>by simp [List.getD,hi]
 rw [Z.ins_add (j:=j) (by simpa using hj) (fun i hi hij=>by rw [g i (by simpa using hi)];exact h0 i hij) (by rw [g j hj];omega) (by rw [g j hj];exact h2),g j hj,List.map_set]
theorem zv2 (ps:List PairB) (k:Nat) (h:k < ps.length) (h0:overB (ps.take k)=false):overB (ps.take (k + 1))=(wE (ps.getD k default).2 != 0):=by
 unfold overB at h0 ⊢;rw [zeI ps k h,List.any_append,h0];simp
theorem zv1 {ps:List PairB} {k:Nat} (h:overB (ps.take k)=true):overB ps=true:=by
 unfold overB at h ⊢;obtain ⟨p,hp,h⟩:=List.any_eq_true.1 h;exact List.any_eq_true.2 ⟨p,List.mem_of_mem_take hp,h⟩
theorem zDP (ps:List PairB) (k:Nat) (h:k < ps.length):Z.nz (ps.take (k + 1))=Z.nz (ps.take k) ++ (if (ps.getD k default).2=0 then [] else [ps.getD k default]):=by
 unfold Z.nz;rw [zeI ps k h,List.filter_append];congr 1;by_cases h0:(ps.getD k default).2=0
 ·rw [if_pos h0,List.filter_cons_of_neg (by simp only [h0];decide)];rfl
 rw [if_neg h0,List.filter_cons_of_pos (by rw [bne_iff_ne];exact h0)];rfl
theorem zEV {x:Int} (h:i64 x):wE x=0:=if_pos h
theorem zD3 {x:Int} (h:¬ i64 x):wE x=12:=if_neg h
theorem zEU {x:Int} (h:i64 x):wV x=x:=if_pos h
theorem zD2 {x:Int} (h:¬ i64 x):wV x=0:=if_neg h
/- -/
/- -/
def rowFrom (b:Nat) (rv:Value) (r:List CellB):Prop:=∀ i,i < r.length->b<=(adr rv (i * 2)).block
def OwnPN (w:World) (base b:Nat) (v:Value) (ps:List PairB):Prop:=∃ ts:List TriB,ps=ts.map (·.2)/\OwnG pairE w base v (ts.map triV)/\(∀ t ∈ ts,RdE w t.1 t.2.1/\∀ g,v.ownBlock=some g->offB t.1 t.2.1.length g)/\∀ t ∈ ts,rowFrom b t.1 t.2.1
section
variable {w w':World} {v:Value} {ps:List PairB} {base b:Nat}
theorem OwnPN.own (h:OwnPN w base b v ps):OwnP w base v ps:=by
 obtain ⟨ts,e,h1,h2,_⟩:=h;exact ⟨ts,e,h1,h2⟩
theorem OwnPN.nil (w:World) (base b:Nat):OwnPN w base b (.slice none 0 0) []:=⟨[],rfl,OwnG.nil pairE w base,by simp,by simp⟩
theorem OwnPN.rd (h:OwnPN w base b v ps) (hs:ps.length<=140737488351232):RdP w v ps:=h.own.rd hs
theorem OwnPN.lt (h:OwnPN w base b v ps) {k:Nat} (hk:v.ownBlock=some k):base<=k/\k < w.heap.size:=h.own.lt hk
theorem OwnPN.later {B:Nat} (h:OwnPN w base b v ps) (hb:Below B w w') (hB:w.heap.size<=B):OwnPN w' base b v ps:=by
 obtain ⟨ts,e,h,hr,hq⟩:=h;exact ⟨ts,e,h.later hb hB,fun t ht=>⟨(hr t ht).1.later hb hB,(hr t ht).2⟩,hq⟩
theorem OwnPN.alloc (h:OwnPN w base b v ps) (o:Obj):OwnPN (w.alloc o) base b v ps:=h.later ((Below.refl w.heap.size w).alloc l_ o) l_
theorem OwnPN.new (h:OwnPN w base b v ps) (hs:ps.length<=140737488351232) (hb:b<=base):NewP w b v ps:=by
 obtain ⟨ts,rfl,ho,hr,hq⟩:=h;rw [List.length_map] at hs;refine ⟨ts,rfl,ho.rd (by simpa using hs),fun i hi=>?_,fun t ht=>⟨(hr t ht).1,hq t ht⟩⟩;obtain ⟨⟨_,h2⟩,_⟩:=ho;rcases h2 with ⟨_,hn9⟩ | ⟨g',cap,cur,hv,hbg,_⟩
 ·rw [List.length_map] at hn9;omega
 rw [hv,zaK];show b<=g';omega
theorem zy2 {cs:List CellB} (h:OwnE w base v cs) (hb:b<=base):rowFrom b v cs:=fun i hi=>by
 obtain ⟨⟨_,h2⟩,_⟩:=h
 rw [List.length_map] at h2
 rcases h2 with ⟨rfl,hn⟩ | ⟨g',cap,cur,rfl,hbg,_⟩
 ·omega
 ·have:(adr (.slice (some ⟨g',0,none⟩) cs.length cap) (i * 2)).block=g':=by rw [zaK]
  omega
theorem zo3 {ops:Array Oper} {Q:Exit->Act->World->Prop} {rest:List Oper} {a:Act} {dst:Option Tmp} {ty:TypeId} {pos:String} {aft:Array Edge} {s x:Operand}
  (base:Nat) (sv:Value) (hs:a.eval s=sv) (ho:OwnPN w base b sv ps) (g:Nat) (rv:Value) (p:PairB) (hx:a.eval x=.slice (some ⟨g,0,none⟩) 1 1) (hg:w.heap[g]?=some (.cells #[rv,.int .i64 p.2] 86 (0,0)))
  (hr:RdE w rv p.1) (hoff:∀ g,sv.ownBlock=some g->offB rv p.1.length g) (hfr:rowFrom b rv p.1) (hn:(ps.length + 1) * 32<=140737488355328) (hbase:base<=w.heap.size)
  (B:Nat) (w0:World) (hb:Below B w0 w) (hBb:B<=base)
  (h:∀ v' w',OwnPN w' base b v' (ps ++ [p])->Below B w0 w'->w.grownBy w' sv.ownBlock->Place w sv v'->wpList prog ops Q rest (a.put dst v') w') :
  wpList prog ops Q (⟨dst,.call ⟨.builtin .append,#[s,x],#[43,43]⟩,ty,pos,aft,none⟩ :: rest) a w:=by
 obtain ⟨ts,rfl,hG,hts,hq⟩:=ho;rw [List.length_map] at hn;have hall:∀ t ∈ ts ++ [(rv,p)],RdE w t.1 t.2.1/\∀ g,sv.ownBlock=some g->offB t.1 t.2.1.length g:=fun t ht=>by
  rcases List.mem_append.1 ht with ht | ht
  ·exact hts t ht
  rw [List.mem_singleton.1 ht];exact ⟨hr,hoff⟩
 have hallq:∀ t ∈ ts ++ [(rv,p)],rowFrom b t.1 t.2.1:=fun t ht=>by
  rcases List.mem_append.1 ht with ht | ht
  ·exact hq t ht
  rw [List.mem_singleton.1 ht];exact hfr
 refine zbA zaY base sv hs hG _ hx (zgS zaY (triV (rv,p)) rfl ⟨g,0,none⟩ ⟨g,0,rfl⟩ fun j z hj=>?_) ?_ (by simp;exact hn) (by simp;omega) hbase B w0 hb hBb (fun v' w' h1 h2 h3 h4=>h v' w' ⟨ts ++ [(rv,p)],by rw [List.map_append];rfl,by rw [List.map_append];exact h1,fun t ht=>zgR hall h3 h4 t ht,hallq⟩ h2 h3 h4)
 ·have e:Addr.add ⟨g,0,none⟩ j=⟨g,j,none⟩:=by simp only [Addr.add];split <;> simp_all
  rw [e,cell_of_row _ _ _ _ _ _ hg];simpa [triV] using hj
 intro y hy;rw [List.mem_singleton.1 hy];exact zcD hr
end
/- -/
theorem zl2 (v1 v2:Value) (cs:List ColB) (ps:List PairB) (w:World) (h1:RdC w v1 cs) (h2:RdP w v2 ps) (hC:CS cs) (hP:PSO ps) (hl:ps.length<=4000) :
  Calls prog 85 #[v1,v2] w fun e w'=>∃ v,e=.returned (.tuple #[v,.int .i64 (clcE cs ps:Nat)])/\NewP w' w.heap.size v (clcO cs ps)/\Below w.heap.size w w':=by
 have CK:=h_ (zbV v1 cs w h1 hC);have hl2:=h2.len;have H1:=h_ h1;have H2:=h_ h2;clear h1 h2;obtain ⟨c,hc⟩:=nm_ (errS (colsL cs));rw [<- hc] at CK;by_cases hcz:c=0
 ·subst hcz;have HE:=h_ (show clcE cs ps=if firstE cs ps≠0 then firstE cs ps else if overB (zcU cs ps)=true then 12 else if 1024 < (canonC cs ps).length then 13 else 0 from by unfold clcE;rw [if_neg (by omega)]);obtain ⟨n,hn⟩:=nm_ ps.length;rw [<- hn] at hl2 hl;have HN:=h_ hn;have hc8:cs.length<=8:=by
   have:=((zjY (colsL cs)).1 hc.symm).1.2;unfold colsL at this;rwa [List.length_map] at this
  clear hc hn;go_enter func85,ntmps85;go_wp2_with fail;refine CK.mono ?_;rintro e w1 ⟨rfl,hb⟩;have HB1:=h_ hb;have hsz1:=hb.size;clear hb CK;go_wp2;go_loopw [7,8] (fun tv i wr=>∃ (k:Nat) (ts:List TriB) (v:Value),v=tv/\k<=n/\i=.int .i64 k/\Hid (∀ p ∈ ps.take k,errRow cs p.1=0)/\Hid (ts.map (·.2)=zcU cs (ps.take k))/\Hid (∀ t ∈ ts,RdE w t.1 t.2.1)/\Hid (OwnG zc4 wr w1.heap.size v (ts.map zb0))/\Hid (Below w1.heap.size w1 wr)) (fun _ i _=>n - (intOf i).toNat)
  case atStart=>exact ⟨0,[],_,rfl,by omega,rfl,h_ (by simp),h_ rfl,h_ (by simp),h_ (OwnG.nil _ _ _),h_ (Below.refl _ _)⟩
  obtain ⟨k,ts,v,rfl,hk,rfl,HV,HM,HT,HO,HB⟩:=hrel;have HPk:=h_ (hP.sub (qs:=ps.take k) (fun p hp=>List.mem_of_mem_take hp));have htl:ts.length<=k:=by
   have e:=congrArg List.length HM.o;rw [List.length_map] at e;have:=zp4 (cs:=cs) (ps.take k) [];have e2:(zcU cs (ps.take k)).length<=0 + (ps.take k).length:=this;rw [List.length_take] at e2;omega
  have hrdq:=HO.rd (by rw [List.length_map];omega);have hlenq:∀ u,(Builtin.len_ #[184] 3 #[v]).run prog u=.ok (.int .i64 (ts.length:Int)) u:=by
   have:=RdG.len hrdq zdU;rw [List.length_map] at this;exact this
  by_cases hlt:k < n
  ·have k2:k < ps.length:=(by rw [<- HN.o];exact hlt);obtain ⟨b,o,rv,hi,hc0,hc1,hre,hbl⟩:=(H2.later HB1.o l_).later HB.o l_ |>.get k2;obtain ⟨b0,o0,rv0,hi0,hd0,hd1,hre0,hbl0⟩:=H2.get k2;obtain ⟨hce,hww⟩:=hP.get k2;have hbb:b=b0/\o=o0:=by
    have e:=(hi w).symm.trans (hi0 w);simp only [Result.ok.injEq,Value.pointer.injEq,Option.some.injEq,Addr.mk.injEq] at e;exact ⟨e.1.1,e.1.2.1⟩
   have hrr:rv=rv0:=by
    have e:=za5 (HB1.trans (HB.mono hsz1)) hd0;rw [<- hbb.1,<- hbb.2,hc0] at e;injection e
   have HRE:=h_ (show RdE w rv (ps.getD k default).1 from by rw [hrr];exact hre0);have CK2:=h_ (fun wz (hz:Below w.heap.size w wz)=>zdL v1 rv cs (ps.getD k default).1 wz (H1.later hz l_) (HRE.later hz l_) hC hce);have HSN:=h_ (zeI ps k k2);have HFE:=h_ (fun h=>zyY (cs:=cs) k2 HV.o h);have HVS:=h_ (fun h=>zx7 (cs:=cs) k2 HV.o h);have hmem:ps.getD k default ∈ ps:=(by simp [List.getD,k2]);have hbl1:b < w1.heap.size:=(by have:=hbb.1;omega);clear hi0 hd0 hd1 hre0 hbl0 hbb hrr k2 hre;obtain ⟨p,hp⟩:=nm_ (ps.getD k default);rw [<- hp] at hc1 hce hww HRE CK2 HSN HFE HVS hmem;clear hp;rcases p with ⟨r,x⟩
   dsimp only at hc1 hce hww HRE CK2 HFE HVS;obtain ⟨ao,no,co,rfl⟩:=HRE.lit;obtain ⟨d,hd⟩:=nm_ (errRow cs r);rw [<- hd] at CK2 HFE HVS;have HD:=h_ hd;clear hd;by_cases hdz:d=0
   ·subst hdz;have HV2:=h_ (HVS.o rfl);have hszr:w1.heap.size<=wr.heap.size:=HB.size;have hzz:w.heap.size<=wr.heap.size:=(by omega);clear HFE HVS;go_wp2_with fail;refine (CK2.o _ (HB1.trans (HB.mono hsz1))).mono ?_;rintro e w3 ⟨rfl,hb3⟩;replace hc0:=za5 hb3 hc0;replace hc1:=za5 hb3 hc1;have HO3:=h_ (HO.later hb3 l_);have HB3:=h_ (HB.trans (hb3.mono hszr));have hsz3:wr.heap.size<=w3.heap.size:=hb3.size;clear hb3 HO HB CK2 hrdq;go_wp2;go_loopw [9] (fun i wq=>∃ j:Nat,j<=ts.length/\i=.int .i64 j/\Hid (∀ i,i < j->cmpR cs (ts.getD i default).2.1 r < 0)/\Hid (Below w3.heap.size w3 wq)) (fun i _=>ts.length - (intOf i).toNat)
    case atStart=>exact ⟨0,by omega,rfl,h_ (fun i hi=>absurd hi (by omega)),h_ (Below.refl _ _)⟩
    obtain ⟨j,hjm,rfl,HL,HBj⟩:=hrel;have hszj:w3.heap.size<=wr.heap.size:=HBj.size;replace hc0:=za5 HBj.o hc0;replace hc1:=za5 HBj.o hc1;have HQ:=h_ (HO3.later HBj.o l_);have HBq:=h_ (HB3.trans (HBj.mono (by omega)));have hszq:w1.heap.size<=wr.heap.size:=(by omega);have HBw:=h_ (HB1.trans (HBq.mono hsz1));have HOC:=h_ (show ∀ t ∈ ts,t.1.oneCell'=true from fun t ht=>ziD (HT.o t ht));by_cases hjlt:j < ts.length
    ·clear HO3 HB3;obtain ⟨gp,op,hgp,hip,hcp⟩:=partAt HQ.o (by omega) hjlt;have HCP:=h_ hcp;clear hcp;have hget:ts.getD j default ∈ ts:=(by simp [List.getD,hjlt]);have hpo:paOk (ts.getD j default).2.2:=zuW HPk.o HV.o (by rw [List.length_take];omega) _ (by rw [<- HM.o];exact List.mem_map_of_mem hget);have hrt:=HT.o _ hget;have hct:CES (ts.getD j default).2.1:=by
      obtain ⟨q,hq,e⟩:=(Z.parts_has (cmp:=cmpR cs) (ps.take k) (ts.getD j default).2.1).1 ⟨(ts.getD j default).2,by rw [show Z.parts (cmpR cs) (ps.take k)=_ from HM.symm];exact List.mem_map_of_mem hget,rfl⟩;rw [<- e];exact (HPk.o q hq).1
     have HADD:=h_ (fun h1 h2=>zBE (cs:=cs) (r:=r) (x:=x) hjlt HL.o h1 h2)
     have HLL:=h_ (show cmpR cs (ts.getD j default).2.1 r < 0->∀ i,i < j + 1->cmpR cs (ts.getD i default).2.1 r < 0 from fun h i hi=>by
      rcases Nat.lt_or_ge i j with h9 | h9
      ·exact HL.o i h9
      ·have:i=j:=by omega
       rw [this];exact h)
     have HSET:=h_ (show ∀ u:TriB,u.1=(ts.getD j default).1->u.2.1=(ts.getD j default).2.1->∀ t ∈ ts.set j u,RdE w t.1 t.2.1 from fun u h1 h2 t ht=>by
      rcases List.mem_or_eq_of_mem_set ht with ht | rfl
      ·exact HT.o t ht
      ·rw [h1,h2];exact HT.o _ hget)
     have hc:=HCP.o wr ts rfl HQ.o;have p0:=hc.1;obtain ⟨tp,htp⟩:=nm_ (ts.getD j default);rw [<- htp] at p0 hpo hrt hct HADD HLL HSET;have HTP:=h_ htp;clear hc htp hget;rcases tp with ⟨tv,tr,tx⟩
     dsimp only at p0 hpo hrt hct HADD HLL HSET;have CC:=h_ (fun wz (hz:Below w.heap.size w wz)=>zdJ v1 tv (.slice ao no co) cs tr r wz (H1.later hz l_) (hrt.later hz l_) (HRE.later hz l_) hC hct hce);have SS:=h_ (fun wz (hz:Below w.heap.size w wz)=>zlJ tv (.slice ao no co) tr r wz (hrt.later hz l_) (HRE.later hz l_));obtain ⟨m,hm⟩:=nm_ (cmpR cs tr r);rw [<- hm] at CC HLL HADD;have HMM:=h_ hm;have hdl:decide (j < ts.length)=true:=decide_eq_true hjlt;clear hm hrt hct;go_wp2;go_still_tail 16,(by kernel_rfl);change wpList _ _ _ _ _ wr.drew;clear p0;go_wp2_with fail;refine (CC.o _ HBw.drew).mono ?_;rintro e w5 ⟨rfl,hb⟩;have hdz:Below wr.heap.size wr w5:=(Below.refl wr.heap.size wr).drew.trans hb;clear hb;replace HQ:=h_ (HQ.later hdz l_);replace HBq:=h_ (HBq.trans (hdz.mono hszq));replace HBw:=bT HBw hdz;replace hc0:=za5 hdz hc0;replace hc1:=za5 hdz hc1;replace hszq:w1.heap.size<=w5.heap.size:=HBq.size;have HBI:=h_ (HBj.trans (hdz.mono hszj));clear hdz HBj hszj;clear CC;by_cases hm0:m < 0
     ·have hmd:decide (m < 0)=true:=decide_eq_true hm0;have HL2:=h_ (HLL.o hm0);clear HADD HLL HSET SS;go_wp2;go_roundw
      case rel=>exact ⟨j + 1,by omega,by go_num,HL2,h_ HBI.o⟩
      simp [intOf];omega
     have hmd:decide (m < 0)=false:=decide_eq_false hm0;have hm0':0<=m:=(by omega);have hc:=HCP.o w5 ts rfl HQ.o;rw [<- HTP.o] at hc;have p0:=hc.1;clear hc;go_wp2;go_still_tail 15,(by kernel_rfl);change wpList _ _ _ _ _ w5.drew;clear p0;go_wp2_with fail;refine (SS.o _ HBw.drew).mono ?_;rintro e w6 ⟨rfl,hb⟩;have hdz:Below w5.heap.size w5 w6:=(Below.refl w5.heap.size w5).drew.trans hb;clear hb;replace HQ:=h_ (HQ.later hdz l_);replace HBq:=h_ (HBq.trans (hdz.mono hszq));replace HBw:=bT HBw hdz;replace hc0:=za5 hdz hc0;replace hc1:=za5 hdz hc1;replace hszq:w1.heap.size<=w6.heap.size:=HBq.size;clear hdz;clear SS;by_cases hrr:tr=r
     ·have hdd:decide (tr=r)=true:=decide_eq_true hrr;rw [hdd]
      have HM12:=h_ (show (ts.set j (tv,(tr,tx + x))).map (·.2)=zcU cs (ps.take (k + 1)) from by
       rw [HSN.o];unfold zcU;rw [Z.parts_snoc];rw [show Z.parts (cmpR cs) (ps.take k)=_ from HM.symm]
       exact HADD.o hm0' hrr)
      have HT12:=h_ (HSET.o (tv,(tr,tx + x)) rfl rfl);have hc:=HCP.o w6 ts rfl HQ.o;rw [<- HTP.o] at hc;obtain ⟨_,p1,p2,_⟩:=hc;clear hdd hrr HADD HLL HSET;go_wp2;have hs1:=fun z:OrdR.GW (Below w1.heap.size) w6.drew=>(z.grew.cell (p:=⟨b,o + 1,none⟩) hbl1).trans hc1;have PL:=h_ (zmX tx x hpo hww w6.drew);unfold paV at PL;refine OrdR.wp_region_ord (R:=Below w1.heap.size) zkU [(0,false),(1,false),(2,false),(3,false),(4,false),(5,false),(7,false),(8,false),(9,false),(10,false),(11,false),(6,true),(12,true),(13,false),(14,false),(15,true)] (by kernel_rfl) rfl (by kernel_rfl) (by kernel_rfl) (fun _ _ _ d _ h=>by cases d <;> exact h) ?_;iterate 11 (refine OrdR.ord_still rfl rfl (by kernel_rfl) (fun K hK=>?_);go_big_quiet_op;refine hK _ ?_;clear hK K)
      refine OrdR.ord_loud rfl (by kernel_rfl) (fun K hK=>?_);go_big_op;refine hK _ _ (Below.refl _ _) ?_;clear hK K;refine OrdR.ord_loud rfl (by kernel_rfl) (fun K hK=>?_);go_big_op;refine PL.mono ?_;rintro e w7 ⟨rfl,hb⟩;have hbk:=hb.mono (show w1.heap.size<=w6.drew.heap.size from hszq);have hdz:Below w6.heap.size w6 w7:=(Below.refl w6.heap.size w6).drew.trans hb;clear hb;replace HQ:=h_ (HQ.later hdz l_);replace HBq:=h_ (HBq.trans (hdz.mono hszq));replace HBw:=bT HBw hdz;replace hc0:=za5 hdz hc0;replace hc1:=za5 hdz hc1;replace hszq:w1.heap.size<=w7.heap.size:=HBq.size;clear hdz;have hc:=HCP.o w7 ts rfl HQ.o;rw [<- HTP.o] at hc;obtain ⟨_,p1,p2,f1,f2,hst⟩:=hc;obtain ⟨q2,g2,HO12⟩:=hst (tx + x);have HO12:=h_ HO12;have HB12:=h_ ((HBq.setCell (p:=⟨gp,op + 1,none⟩) (by exact hgp) (.int .i64 (paH (tx + x)))).setCell (p:=⟨gp,op + 2,none⟩) (by exact hgp) (.int .i64 (paL (tx + x))));clear hst HQ HBq PL;refine hK _ _ hbk ?_;clear hbk hs1;clear hK K;iterate 2 (refine OrdR.ord_still rfl rfl (by kernel_rfl) (fun K hK=>?_);go_big_quiet_op;refine hK _ ?_;clear hK K)
      refine OrdR.ord_loud rfl (by kernel_rfl) (fun K hK=>?_);go_big_op;refine hK _ _ (((Below.refl _ _).setCell (p:=⟨gp,op + 1,none⟩) (by exact hgp) _).setCell (p:=⟨gp,op + 2,none⟩) (by exact hgp) _) ?_;clear hK K;refine OrdR.ord_nil ?_;go_wp2;go_roundw
      case rel=>exact ⟨k + 1,_,_,rfl,by omega,by go_num,HV2,HM12,HT12,HO12,HB12⟩
      simp [intOf];omega
     have hdd:decide (tr=r)=false:=decide_eq_false hrr;rw [hdd]
     have HNEW:=h_ (show j < ts.length->0<=cmpR cs (ts.getD j default).2.1 r/\(ts.getD j default).2.1≠r from fun _=>by
      rw [<- HTP.o];exact ⟨by show 0<=cmpR cs tr r;rw [<- HMM.o];omega,hrr⟩)
     clear hdd hrr HADD HLL HSET;have hrdq:=HQ.rd (by rw [List.length_map];omega);obtain ⟨vt,hvt,hvt2⟩:=RdG.upto zdU hrdq j (by rw [List.length_map];omega);obtain ⟨vd,hvd,hvd2⟩:=RdG.from zdU hrdq j (by rw [List.length_map];omega)
     have RT:=h_ (show RdG zc4 (w6.alloc (.cells #[] 189)) vt ((ts.take j).map zb0) from by
      rw [List.map_take];exact hvt2 _ (hrdq.later zdU ((Below.refl _ _).alloc l_ _) l_))
     have RD:=h_ (show ∀ wy,OwnG zc4 wy w1.heap.size v (ts.map zb0)->RdG zc4 wy vd ((ts.drop j).map zb0) from fun wy hz=>by
      rw [List.map_drop];exact hvd2 _ (hz.rd (by rw [List.length_map];omega)))
     have hvt':∀ u,(Instr.slice 184 v none (some (.int .i64 (j:Int))) none).run prog u=.ok vt u:=hvt;have hvd':∀ u,(Instr.slice 184 v (some (.int .i64 (j:Int))) none none).run prog u=.ok vd u:=hvd;clear hvt hvd hvt2 hvd2 hrdq;go_wp2_with (with_reducible refine zdG (ts:=[]) (us:=ts.take j) w6.heap.size _ ?hs (zlQ w6 w6.heap.size l_) vt ?hx RT.o ?h1 ?hn ?hbase w6.heap.size w6 ((Below.refl _ _).alloc l_ _) l_ ?_)
     case hs=>rfl
     case hx=>rfl
     case h1=>exact fun t ht=>HOC.o t (List.mem_of_mem_take ht)
     case hn=>simp;omega
     case hbase=>simp
     intro v8 w8 ho8 hb8 _;rw [List.nil_append] at ho8;have hblz:b < w6.heap.size:=World.block_lt_of_cell? w6 _ hc0;have HO8:=h_ ho8;have HB8:=h_ hb8;have hsz8:w6.heap.size<=w8.heap.size:=hb8.size;have hc08:=za5 (hb8.mono l_) hc0;have hc18:=za5 (hb8.mono l_) hc1;clear ho8 hb8 hc0 hc1;go_wp2;have hs0:=fun z:OrdR.GW (Below w6.heap.size) w8.drew=>(z.grew.cell (p:=⟨b,o,none⟩) hblz).trans hc08;have hs1:=fun z:OrdR.GW (Below w6.heap.size) w8.drew=>(z.grew.cell (p:=⟨b,o + 1,none⟩) hblz).trans hc18;clear hc08 hc18;refine OrdR.wp_region_ord (R:=Below w6.heap.size) zkU [(0,false),(1,false),(2,false),(3,false),(4,false),(5,false),(7,false),(8,false),(9,false),(10,false),(11,false),(6,true),(12,true),(13,true),(14,true),(15,true),(16,false)] (by kernel_rfl) rfl (by kernel_rfl) (by kernel_rfl) (fun _ _ _ d _ h=>by cases d <;> exact h) ?_;iterate 11 (refine OrdR.ord_still rfl rfl (by kernel_rfl) (fun K hK=>?_);go_big_quiet_op;refine hK _ ?_;clear hK K)
     refine OrdR.ord_loud rfl (by kernel_rfl) (fun K hK=>?_);go_big_op;refine hK _ _ (Below.refl _ _) ?_;clear hK K;refine OrdR.ord_loud rfl (by kernel_rfl) (fun K hK=>?_);go_big_op;have PL:=zmX 0 x ⟨by omega,by omega⟩ hww w8.drew;rw [show paV 0=.agg #[.int .i64 0,.int .i64 0] from rfl,Int.zero_add] at PL;refine PL.mono ?_;rintro e w10 ⟨rfl,hb10⟩;have HO10:=h_ ((HO8.drew.later hb10 l_).alloc (.cells #[.slice ao no co,.int .i64 (paH x),.int .i64 (paL x)] 189));have HB9:=h_ (HB8.drew.trans (hb10.mono (by exact hsz8)));have hsz10:w6.heap.size<=w10.heap.size:=HB9.size;refine hK _ _ (hb10.mono (by exact hsz8)) ?_;unfold paV;clear PL hb10 HO8 HB8 hs0 hs1;clear hK K;refine OrdR.ord_loud rfl (by kernel_rfl) (fun K hK=>?_);go_big_op;refine hK _ _ (Below.refl _ _) ?_;clear hK K;refine OrdR.ord_loud rfl (by kernel_rfl) (fun K hK=>?_);go_big_op;refine hK _ _ ((Below.refl _ _).alloc (by omega) _) ?_;clear hK K;refine OrdR.ord_loud rfl (by kernel_rfl) (fun K hK=>?_);refine zqV zdU w6.heap.size v8 (zb0 ((.slice ao no co:Value),(r,x))) ⟨w10.heap.size,0,none⟩ rfl HO10.o rfl rfl (zjG [((.slice ao no co:Value),(r,x))] (by simp [Value.oneCell']) _ (by simp)) (zoY w10 ((.slice ao no co:Value),(r,x))) (by rw [List.length_map];simp [zc4];omega) (by rw [List.length_map];simp;omega) (by simp;omega) w6.heap.size w6 (HB9.alloc (by omega) _) l_ ?_;intro v11 w11 ho11 hb11 hg11 _;refine hK _ _ ((Below.refl w6.heap.size _).grown hg11 (by simp;omega) (fun g hg=>(HO10.lt hg).1)) ?_;have HO11:=h_ (show OwnG zc4 w11 w6.heap.size v11 ((ts.take j ++ [((.slice ao no co:Value),(r,x))]).map zb0) from by rw [List.map_append];exact ho11);have HB11:=h_ hb11;have hsz11:w6.heap.size<=w11.heap.size:=hb11.size;have HRD:=h_ (RD.o w11 (HQ.later hb11 l_));clear ho11 hb11 HO10 HB9 hg11;go_simp;clear hK K;refine OrdR.ord_still rfl rfl (by kernel_rfl) (fun K hK=>?_);go_big_quiet_op;refine hK _ ?_;clear hK K;refine OrdR.ord_nil ?_;go_wp2_with (with_reducible refine zdG (ts:=ts.take j ++ [((.slice ao no co:Value),(r,x))]) (us:=ts.drop j) w6.heap.size _ ?hs HO11.o vd ?hx HRD.o ?h1 ?hn ?hbase w6.heap.size w6 HB11.o l_ ?_)
     case hs=>rfl
     case hx=>rfl
     case h1=>exact fun t ht=>HOC.o t (List.mem_of_mem_drop ht)
     case hn=>simp;omega
     case hbase=>exact hsz11
     intro v12 w12 ho12 hb12 _
     have HO12:=h_ (show OwnG zc4 w12 w1.heap.size v12 ((ts.take j ++ ((.slice ao no co:Value),(r,x)) :: ts.drop j).map zb0) from by
      have e:ts.take j ++ [((.slice ao no co:Value),(r,x))] ++ ts.drop j=ts.take j ++ ((.slice ao no co:Value),(r,x)) :: ts.drop j:=by simp
      rw [e] at ho12;exact ho12.base hszq)
     have HB12:=h_ (HBq.trans (hb12.mono hszq))
     have HM12:=h_ (show (ts.take j ++ ((.slice ao no co:Value),(r,x)) :: ts.drop j).map (·.2)=zcU cs (ps.take (k + 1)) from by
      rw [HSN.o];unfold zcU;rw [Z.parts_snoc];rw [show Z.parts (cmpR cs) (ps.take k)=_ from HM.symm];exact ztH hjm HL.o HNEW.o)
     have HT12:=h_ (show ∀ t ∈ ts.take j ++ ((.slice ao no co:Value),(r,x)) :: ts.drop j,RdE w t.1 t.2.1 from by
      intro t ht
      rcases List.mem_append.1 ht with ht | ht
      ·exact HT.o t (List.mem_of_mem_take ht)
      ·rcases List.mem_cons.1 ht with rfl | ht
       ·exact HRE.o
       ·exact HT.o t (List.mem_of_mem_drop ht))
     clear ho12 HO11 HB11 HRD HQ;go_wp2;go_roundw
     case rel=>exact ⟨k + 1,_,_,rfl,by omega,by go_num,HV2,HM12,HT12,HO12,HB12⟩
     simp [intOf];omega
    have HNEW:=h_ (show j < ts.length->0<=cmpR cs (ts.getD j default).2.1 r/\(ts.getD j default).2.1≠r from fun h=>absurd h hjlt);clear hszj HBj HO3 HB3;go_wp2;go_quiet (fail);have hdz:Below wr.heap.size wr (wr.drewN nq):=_root_.Go.below_drewN (Below.refl wr.heap.size wr) nq;replace HQ:=h_ (HQ.later hdz l_);replace HBq:=h_ (HBq.trans (hdz.mono hszq));replace HBw:=bT HBw hdz;replace hc0:=za5 hdz hc0;replace hc1:=za5 hdz hc1;replace hszq:w1.heap.size<=(wr.drewN nq).heap.size:=HBq.size;clear hdz;generalize wr.drewN nq=wy at *;go_wp2;go_quiet (fail);have hdz:Below wy.heap.size wy (wy.drewN nq):=_root_.Go.below_drewN (Below.refl wy.heap.size wy) nq;replace HQ:=h_ (HQ.later hdz l_);replace HBq:=h_ (HBq.trans (hdz.mono hszq));replace HBw:=bT HBw hdz;replace hc0:=za5 hdz hc0;replace hc1:=za5 hdz hc1;replace hszq:w1.heap.size<=(wy.drewN nq).heap.size:=HBq.size;clear hdz;generalize wy.drewN nq=wz at *;have hrdq:=HQ.rd (by rw [List.length_map];omega);obtain ⟨vt,hvt,hvt2⟩:=RdG.upto zdU hrdq j (by rw [List.length_map];omega);obtain ⟨vd,hvd,hvd2⟩:=RdG.from zdU hrdq j (by rw [List.length_map];omega)
    have RT:=h_ (show RdG zc4 (wz.alloc (.cells #[] 189)) vt ((ts.take j).map zb0) from by
     rw [List.map_take];exact hvt2 _ (hrdq.later zdU ((Below.refl _ _).alloc l_ _) l_))
    have RD:=h_ (show ∀ wy,OwnG zc4 wy w1.heap.size v (ts.map zb0)->RdG zc4 wy vd ((ts.drop j).map zb0) from fun wy hz=>by
     rw [List.map_drop];exact hvd2 _ (hz.rd (by rw [List.length_map];omega)))
    have hvt':∀ u,(Instr.slice 184 v none (some (.int .i64 (j:Int))) none).run prog u=.ok vt u:=hvt;have hvd':∀ u,(Instr.slice 184 v (some (.int .i64 (j:Int))) none none).run prog u=.ok vd u:=hvd;clear hvt hvd hvt2 hvd2 hrdq;go_wp2_with (with_reducible refine zdG (ts:=[]) (us:=ts.take j) wz.heap.size _ ?hs (zlQ wz wz.heap.size l_) vt ?hx RT.o ?h1 ?hn ?hbase wz.heap.size wz ((Below.refl _ _).alloc l_ _) l_ ?_)
    case hs=>rfl
    case hx=>rfl
    case h1=>exact fun t ht=>HOC.o t (List.mem_of_mem_take ht)
    case hn=>simp;omega
    case hbase=>simp
    intro v8 w8 ho8 hb8 _;rw [List.nil_append] at ho8;have hblz:b < wz.heap.size:=World.block_lt_of_cell? wz _ hc0;have HO8:=h_ ho8;have HB8:=h_ hb8;have hsz8:wz.heap.size<=w8.heap.size:=hb8.size;have hc08:=za5 (hb8.mono l_) hc0;have hc18:=za5 (hb8.mono l_) hc1;clear ho8 hb8 hc0 hc1;go_wp2;have hs0:=fun z:OrdR.GW (Below wz.heap.size) w8.drew=>(z.grew.cell (p:=⟨b,o,none⟩) hblz).trans hc08;have hs1:=fun z:OrdR.GW (Below wz.heap.size) w8.drew=>(z.grew.cell (p:=⟨b,o + 1,none⟩) hblz).trans hc18;clear hc08 hc18;refine OrdR.wp_region_ord (R:=Below wz.heap.size) zkU [(0,false),(1,false),(2,false),(3,false),(4,false),(5,false),(7,false),(8,false),(9,false),(10,false),(11,false),(6,true),(12,true),(13,true),(14,true),(15,true),(16,false)] (by kernel_rfl) rfl (by kernel_rfl) (by kernel_rfl) (fun _ _ _ d _ h=>by cases d <;> exact h) ?_;iterate 11 (refine OrdR.ord_still rfl rfl (by kernel_rfl) (fun K hK=>?_);go_big_quiet_op;refine hK _ ?_;clear hK K)
    refine OrdR.ord_loud rfl (by kernel_rfl) (fun K hK=>?_);go_big_op;refine hK _ _ (Below.refl _ _) ?_;clear hK K;refine OrdR.ord_loud rfl (by kernel_rfl) (fun K hK=>?_);go_big_op;have PL:=zmX 0 x ⟨by omega,by omega⟩ hww w8.drew;rw [show paV 0=.agg #[.int .i64 0,.int .i64 0] from rfl,Int.zero_add] at PL;refine PL.mono ?_;rintro e w10 ⟨rfl,hb10⟩;have HO10:=h_ ((HO8.drew.later hb10 l_).alloc (.cells #[.slice ao no co,.int .i64 (paH x),.int .i64 (paL x)] 189));have HB9:=h_ (HB8.drew.trans (hb10.mono (by exact hsz8)));have hsz10:wz.heap.size<=w10.heap.size:=HB9.size;refine hK _ _ (hb10.mono (by exact hsz8)) ?_;unfold paV;clear PL hb10 HO8 HB8 hs0 hs1;clear hK K;refine OrdR.ord_loud rfl (by kernel_rfl) (fun K hK=>?_);go_big_op;refine hK _ _ (Below.refl _ _) ?_;clear hK K;refine OrdR.ord_loud rfl (by kernel_rfl) (fun K hK=>?_);go_big_op;refine hK _ _ ((Below.refl _ _).alloc (by omega) _) ?_;clear hK K;refine OrdR.ord_loud rfl (by kernel_rfl) (fun K hK=>?_);refine zqV zdU wz.heap.size v8 (zb0 ((.slice ao no co:Value),(r,x))) ⟨w10.heap.size,0,none⟩ rfl HO10.o rfl rfl (zjG [((.slice ao no co:Value),(r,x))] (by simp [Value.oneCell']) _ (by simp)) (zoY w10 ((.slice ao no co:Value),(r,x))) (by rw [List.length_map];simp [zc4];omega) (by rw [List.length_map];simp;omega) (by simp;omega) wz.heap.size wz (HB9.alloc (by omega) _) l_ ?_;intro v11 w11 ho11 hb11 hg11 _;refine hK _ _ ((Below.refl wz.heap.size _).grown hg11 (by simp;omega) (fun g hg=>(HO10.lt hg).1)) ?_;have HO11:=h_ (show OwnG zc4 w11 wz.heap.size v11 ((ts.take j ++ [((.slice ao no co:Value),(r,x))]).map zb0) from by rw [List.map_append];exact ho11);have HB11:=h_ hb11;have hsz11:wz.heap.size<=w11.heap.size:=hb11.size;have HRD:=h_ (RD.o w11 (HQ.later hb11 l_));clear ho11 hb11 HO10 HB9 hg11;go_simp;clear hK K;refine OrdR.ord_still rfl rfl (by kernel_rfl) (fun K hK=>?_);go_big_quiet_op;refine hK _ ?_;clear hK K;refine OrdR.ord_nil ?_;go_wp2_with (with_reducible refine zdG (ts:=ts.take j ++ [((.slice ao no co:Value),(r,x))]) (us:=ts.drop j) wz.heap.size _ ?hs HO11.o vd ?hx HRD.o ?h1 ?hn ?hbase wz.heap.size wz HB11.o l_ ?_)
    case hs=>rfl
    case hx=>rfl
    case h1=>exact fun t ht=>HOC.o t (List.mem_of_mem_drop ht)
    case hn=>simp;omega
    case hbase=>exact hsz11
    intro v12 w12 ho12 hb12 _
    have HO12:=h_ (show OwnG zc4 w12 w1.heap.size v12 ((ts.take j ++ ((.slice ao no co:Value),(r,x)) :: ts.drop j).map zb0) from by
     have e:ts.take j ++ [((.slice ao no co:Value),(r,x))] ++ ts.drop j=ts.take j ++ ((.slice ao no co:Value),(r,x)) :: ts.drop j:=by simp
     rw [e] at ho12;exact ho12.base hszq)
    have HB12:=h_ (HBq.trans (hb12.mono hszq))
    have HM12:=h_ (show (ts.take j ++ ((.slice ao no co:Value),(r,x)) :: ts.drop j).map (·.2)=zcU cs (ps.take (k + 1)) from by
     rw [HSN.o];unfold zcU;rw [Z.parts_snoc];rw [show Z.parts (cmpR cs) (ps.take k)=_ from HM.symm];exact ztH hjm HL.o HNEW.o)
    have HT12:=h_ (show ∀ t ∈ ts.take j ++ ((.slice ao no co:Value),(r,x)) :: ts.drop j,RdE w t.1 t.2.1 from by
     intro t ht
     rcases List.mem_append.1 ht with ht | ht
     ·exact HT.o t (List.mem_of_mem_take ht)
     ·rcases List.mem_cons.1 ht with rfl | ht
      ·exact HRE.o
      ·exact HT.o t (List.mem_of_mem_drop ht))
    clear ho12 HO11 HB11 HRD HQ;go_wp2;go_roundw
    case rel=>exact ⟨k + 1,_,_,rfl,by omega,by go_num,HV2,HM12,HT12,HO12,HB12⟩
    simp [intOf];omega
   have HF:=h_ (HFE.o hdz);have HE2:=h_ (show clcE cs ps=d from by rw [HE.o,if_pos (by rw [HF.o];exact hdz),HF.o]);have HX:=h_ (show clcO cs ps=[] from by unfold clcO;rw [if_neg (by rw [HE2.o];exact hdz)]);have q:((d:Int) != 0)=true:=(by rw [bne_iff_ne];omega);clear HFE HVS HE;go_wp2_with fail;refine (CK2.o _ (HB1.trans (HB.mono hsz1))).mono ?_;rintro e w3 ⟨rfl,hb3⟩;have HB3:=h_ ((HB1.trans (HB.mono hsz1)).trans (hb3.mono (Nat.le_trans hsz1 HB.size)));clear hb3;go_wp2;go_ret2;exact ⟨_,by rw [HE2.o];rfl,by rw [HX.o];exact NewP.nil _ _,HB3.o⟩
  obtain rfl:k=n:=by omega
  obtain ⟨wa,rfl⟩:=nm_ wr;have htk:ps.take k=ps:=List.take_of_length_le (by rw [<- HN.o];exact l_);rw [htk] at HV HM;have hfz:firstE cs ps=0:=firstE_zero.2 HV.o
  have HEE:=h_ (show clcE cs ps=if overB (ts.map (·.2))=true then 12 else if 1024 < (Z.nz (ts.map (·.2))).length then 13 else 0 from by
   rw [HE.o,if_neg (fun h9=>h9 hfz),HM.o];rfl)
  have HXX:=h_ (show clcE cs ps=0->clcO cs ps=Z.nz (ts.map (·.2)) from fun h=>by
   unfold clcO;rw [if_pos h,HM.o];rfl)
  have HPP:=h_ (show ∀ t ∈ ts,CES t.2.1/\t.2.1.length<=8 from fun t ht=>by
   obtain ⟨q,hq,e⟩:=(Z.parts_has (cmp:=cmpR cs) ps t.2.1).1 ⟨t.2,by rw [show Z.parts (cmpR cs) ps=_ from HM.symm];exact List.mem_map_of_mem ht,rfl⟩
   rw [<- e]
   have:=HV.o q hq
   obtain ⟨_,h2,_⟩:=zaO this
   exact ⟨(hP q hq).1,by omega⟩)
  have hszr:w1.heap.size<=wa.heap.size:=HB.size;have HBw:=h_ (HB1.trans (HB.mono hsz1));obtain ⟨m,hm⟩:=nm_ ts.length;rw [<- hm] at hlenq htl;have HMM:=h_ hm;clear htk hfz HE hrdq hm hlt;go_wp2;go_loopw [11,12] (fun tv i wq=>∃ (j:Nat) (tx:Value),tx=tv/\j<=m/\i=.int .i64 j/\Hid (overB ((ts.map (·.2)).take j)=false)/\Hid (OwnPN wq wa.heap.size w.heap.size tx (Z.nz ((ts.map (·.2)).take j)))/\Hid (Below wa.heap.size wa wq)) (fun _ i _=>m - (intOf i).toNat)
  case atStart=>exact ⟨0,_,rfl,by omega,rfl,h_ rfl,h_ (OwnPN.nil _ _ _),h_ (Below.refl _ _)⟩
  obtain ⟨j,tx,rfl,hj,rfl,HOV,HOU,HC⟩:=hrel;by_cases hjm:j < m
  ·have hjt:j < ts.length:=(by rw [<- HMM.o];exact hjm);obtain ⟨gp,op,hgp,hip,hcp⟩:=partAt HO.o (by have:=HMM.o;omega) hjt;obtain ⟨e0,e1,e2,_⟩:=hcp _ ts rfl HO.o;replace e0:=za5 HC.o e0;replace e1:=za5 HC.o e1;replace e2:=za5 HC.o e2;have hget:ts.getD j default ∈ ts:=(by simp [List.getD,hjt]);have hrt:=HT.o _ hget;obtain ⟨hct,hcl⟩:=HPP.o _ hget;have hjt2:j < (ts.map (·.2)).length:=(by simpa using hjt);have hgd:(ts.map (·.2)).getD j default=(ts.getD j default).2:=(by simp [List.getD,hjt]);have HOS:=h_ (zv2 _ j hjt2 HOV.o);have HNS:=h_ (zDP _ j hjt2);rw [hgd] at HOS HNS;obtain ⟨tp,htp⟩:=nm_ (ts.getD j default);rw [<- htp] at e0 e1 e2 hrt hct hcl HOS HNS;clear htp hget hcp hjt hjt2 hgd;rcases tp with ⟨tv,tr,X⟩
   dsimp only at e0 e1 e2 hrt hct hcl HOS HNS;have WH:=h_ (zxB X);unfold paV at WH;by_cases hX:i64 X
   ·rw [zEV hX] at HOS WH;rw [zEU hX] at WH;have HOV2:=h_ (show overB ((ts.map (·.2)).take (j + 1))=false from by rw [HOS.o];rfl);have hszq:wa.heap.size<=wr.heap.size:=HC.size;clear HOS;go_wp2_with fail;refine (WH.o _).mono ?_;rintro e w4 ⟨rfl,hb⟩;replace e0:=za5 hb e0;have HOU4:=h_ (HOU.later hb l_);have HC4:=h_ (HC.trans (hb.mono hszq));have hsz4:wa.heap.size<=w4.heap.size:=HC4.size;clear hb HOU HC e1 e2 WH;by_cases hX0:X=0
    ·rw [if_pos hX0,List.append_nil] at HNS;subst hX0;go_wp2;go_roundw
     case rel=>exact ⟨j + 1,_,rfl,by omega,by go_num,HOV2,by rw [HNS.o];exact HOU4,HC4⟩
     simp [intOf];omega
    rw [if_neg hX0] at HNS;have hxq:(X != 0)=true:=(by rw [bne_iff_ne];exact hX0);have hre1:=(hrt.later (HBw.trans (HC4.mono HBw.size)) l_).later ((Below.refl w4.heap.size w4).alloc l_ (.cells #[] 82)) l_;have HRE:=h_ hre1;have HOE:=h_ (zlR w4 w4.heap.size l_);have hgl:gp < w4.heap.size:=World.block_lt_of_cell? w4 _ e0;clear hre1 hX0 hrt;go_wp2_with (with_reducible refine zeX w4.heap.size _ ?hs HOE.o tv ?hx HRE.o ?hn ?hbase w4.heap.size w4 ((Below.refl _ _).alloc l_ _) l_ ?_)
    case hs=>rfl
    case hx=>rfl
    case hn=>simp;omega
    case hbase=>simp
    intro v5 w5 ho5 hb5 _;rw [List.nil_append] at ho5;obtain ⟨ao,no,co,rfl⟩:=(ho5.rd (by omega)).lit;have hsz5:w4.heap.size<=w5.heap.size:=hb5.size;have HO5:=h_ ((HOU4.later hb5 l_).alloc (.cells #[.slice ao no co,.int .i64 X] 86));have HR5:=h_ ((ho5.rd (by omega)).later ((Below.refl w5.heap.size w5).alloc l_ (.cells #[.slice ao no co,.int .i64 X] 86)) l_);have HF5:=h_ (fun g (hg:tx.ownBlock=some g)=>ho5.offB (HOU4.lt hg).2);have HN5:=h_ (zy2 (b:=w.heap.size) ho5 (Nat.le_trans HBw.size hsz4));have HB5:=h_ ((HC4.trans (hb5.mono hsz4)).alloc (by omega) (.cells #[.slice ao no co,.int .i64 X] 86));have HG5:=h_ (heap_alloc_new w5 (.cells #[.slice ao no co,.int .i64 X] 86))
    have HLN:=h_ (show (Z.nz ((ts.map (·.2)).take j)).length<=4000 from by
     have h2:((ts.map (·.2)).take j).length<=j:=by rw [List.length_take];omega
     exact Nat.le_trans (List.length_filter_le _ _) (by omega))
    clear ho5 hb5 HRE HOE HOU4;go_wp2_with (with_reducible refine zo3 wa.heap.size _ ?hs HO5.o w5.heap.size (.slice ao no co) (tr,X) ?hx HG5.o HR5.o HF5.o HN5.o ?hn ?hbase wa.heap.size wa HB5.o l_ ?_)
    case hs=>rfl
    case hx=>rfl
    case hn=>have:=HLN.o;omega
    case hbase=>simp;omega
    intro v6 w6 ho6 hb6 _ _;have HO6:=h_ (show OwnPN w6 wa.heap.size w.heap.size v6 (Z.nz ((ts.map (·.2)).take (j + 1))) from by rw [HNS.o];exact ho6);have HB6:=h_ hb6;clear ho6 hb6 HO5 HR5 HF5 HB5 HG5 HLN;go_wp2;go_roundw
    case rel=>exact ⟨j + 1,_,rfl,by omega,by go_num,HOV2,HO6,HB6⟩
    simp [intOf];omega
   rw [zD3 hX] at HOS WH;rw [zD2 hX] at WH;have HOT:=h_ (show overB (ts.map (·.2))=true from zv1 (k:=j + 1) (by rw [HOS.o];rfl));have HE2:=h_ (show clcE cs ps=12 from by rw [HEE.o,if_pos HOT.o]);have HX:=h_ (show clcO cs ps=[] from by unfold clcO;rw [if_neg (by rw [HE2.o];decide)]);have hszq:wa.heap.size<=wr.heap.size:=HC.size;go_wp2_with fail;refine (WH.o _).mono ?_;rintro e w4 ⟨rfl,hb⟩;have HC4:=h_ (HBw.trans ((HC.trans (hb.mono hszq)).mono HBw.size));clear hb;go_wp2;go_ret2;exact ⟨_,by rw [HE2.o];rfl,by rw [HX.o];exact NewP.nil _ _,HC4.o⟩
  obtain rfl:j=m:=by omega
  have htj:(ts.map (·.2)).take j=ts.map (·.2):=List.take_of_length_le (by rw [List.length_map,<- HMM.o];exact l_);rw [htj] at HOV HOU
  have HLN:=h_ (show (Z.nz (ts.map (·.2))).length<=4000 from by
   exact Nat.le_trans (List.length_filter_le _ _) (by rw [List.length_map,<- HMM.o];omega))
  have hlo:=(HOU.rd (by have:=HLN.o;omega)).len;have HEO:=h_ (show clcE cs ps=if 1024 < (Z.nz (ts.map (·.2))).length then 13 else 0 from by rw [HEE.o,HOV.o];rfl);obtain ⟨q,hq⟩:=nm_ ((Z.nz (ts.map (·.2))).length);rw [<- hq] at hlo HEO HLN;have HQQ:=h_ hq;clear htj hq;have HCW:=bT HBw HC.o;by_cases hq1:1024 < q
  ·have HE2:=h_ (show clcE cs ps=13 from by rw [HEO.o,if_pos hq1]);have HX:=h_ (show clcO cs ps=[] from by unfold clcO;rw [if_neg (by rw [HE2.o];decide)]);go_wp2;go_ret2;exact ⟨_,by rw [HE2.o];rfl,by rw [HX.o];exact NewP.nil _ _,HCW.o⟩
  have HE2:=h_ (show clcE cs ps=0 from by rw [HEO.o,if_neg hq1]);go_wp2;go_ret2;exact ⟨_,by rw [HE2.o];rfl,by rw [HXX.o HE2.o];exact HOU.new (by rw [<- HQQ.o];have:=HLN.o;omega) HBw.size,HCW.o⟩
 have HE:=h_ (show clcE cs ps=c from by unfold clcE;rw [if_pos (by omega),hc]);have HX:=h_ (show clcO cs ps=[] from by unfold clcO;rw [if_neg (by rw [HE.o];exact hcz)]);have q:((c:Int) != 0)=true:=by rw [bne_iff_ne];omega
 clear hc;go_enter func85,ntmps85;go_wp2_with fail;refine CK.mono ?_;rintro e w1 ⟨rfl,hb⟩;have HB1:=h_ hb;clear hb CK;go_wp2;go_ret2;exact ⟨_,by rw [HE.o];rfl,by rw [HX.o];exact NewP.nil _ _,HB1.o⟩
/- -/
theorem zuO (v1 v2 v3:Value) (cs:List ColB) (a b:List PairB) (w:World) (h1:RdC w v1 cs) (h2:RdP w v2 a) (h3:RdP w v3 b) (hC:CS cs) (hA:PSO a) (hB:PSO b) :
  Calls prog 146 #[v1,v2,v3] w fun e w'=>∃ v,e=.returned (.tuple #[v,.int .i64 (sumE cs a b:Nat)])/\NewP w' w.heap.size v (sumO cs a b)/\Below w.heap.size w w':=by
 have CA:=h_ (zdK v1 v2 cs a w h1 h2 hC hA);have CB:=h_ (fun wz (hz:Below w.heap.size w wz)=>zdK v1 v3 cs b wz (h1.later hz l_) (h3.later hz l_) hC hB);have CC:=h_ (fun wz v ps (hz:Below w.heap.size w wz) (hp:RdP wz v ps) (hP:PSO ps) (hl:ps.length<=4000)=>zl2 v1 v cs ps wz (h1.later hz l_) hp hC hP hl);have H2:=h_ h2;have H3:=h_ h3;clear h1 h2 h3;obtain ⟨x,hx⟩:=nm_ (chkZ cs a);obtain ⟨y,hy⟩:=nm_ (chkZ cs b);rw [<- hx] at CA;rw [<- hy] at CB;by_cases hx0:x=0
 ·subst hx0;have hla:a.length<=1024:=((zb2 hA).1 hx.symm).2.1;by_cases hy0:y=0
  ·subst hy0;have hlb:b.length<=1024:=((zb2 hB).1 hy.symm).2.1;have HE:=h_ (show sumE cs a b=clcE cs (a ++ b) from by unfold sumE;rw [if_neg (by omega),if_neg (by omega)]);have HX:=h_ (show sumO cs a b=clcO cs (a ++ b) from by unfold sumO clcO;rw [HE.o]);clear hx hy;go_enter func146,ntmps146;go_wp2_with fail;refine CA.mono ?_;rintro e w1 ⟨rfl,hb⟩;have HB1:=h_ hb;clear hb CA;go_wp2_with fail;refine (CB.o _ HB1.o).mono ?_;rintro e w2 ⟨rfl,hb⟩;have HB2:=bT HB1 hb;have hsz2:w.heap.size<=w2.heap.size:=HB2.size;clear hb CB HB1;obtain ⟨us,hus,hu1,hu2,hu3⟩:=(H2.later HB2.o l_).parts;obtain ⟨ts,hts,ht1,ht2,ht3⟩:=(H3.later HB2.o l_).parts;obtain ⟨g1,g2⟩:=hu3 _ 0 ((Below.refl w2.heap.size w2).alloc l_ (.cells #[] 86)) (.slice (some ⟨w2.heap.size,0,none⟩) 0 0) (fun g hg=>by injection hg with hg;exact Nat.le_of_eq hg);have HG1:=h_ g1;have HG2:=h_ g2;have HO:=h_ (zv0 w2 w2.heap.size l_);have hlu:us.length<=1024:=(by have:=congrArg List.length hus;rw [List.length_map] at this;omega);have hlt:ts.length<=1024:=(by have:=congrArg List.length hts;rw [List.length_map] at this;omega);have HT3:=h_ ht3;have HUS:=h_ hus;have HTS:=h_ hts;clear hu1 hu2 hu3 g1 g2 ht1 ht2 ht3 hus hts;go_wp2_with (with_reducible refine zeW w2.heap.size _ ?hs HO.o v2 ?hx us HG1.o HG2.o ?hn ?hbase w2.heap.size w2 ((Below.refl _ _).alloc l_ _) l_ ?_)
   case hs=>rfl
   case hx=>rfl
   case hn=>simp;omega
   case hbase=>simp
   intro v4 w4 ho4 hb4 _ _;rw [List.nil_append] at ho4;obtain ⟨g1,g2⟩:=HT3.o w4 0 hb4 v4 (fun g hg=>(ho4.lt hg).1);have HO4:=h_ ho4;have HB4:=h_ hb4;have HG3:=h_ g1;have HG4:=h_ g2;have hsz4:w2.heap.size<=w4.heap.size:=hb4.size;clear HG1 HG2 HO g1 g2 ho4 hb4;go_wp2_with (with_reducible refine zeW w2.heap.size _ ?hs HO4.o v3 ?hx ts HG3.o HG4.o ?hn ?hbase w2.heap.size w2 HB4.o l_ ?_)
   case hs=>rfl
   case hx=>rfl
   case hn=>rw [List.length_map];omega
   case hbase=>exact hsz4
   intro v5 w5 ho5 hb5 _ _;rw [<- HUS.o,<- HTS.o] at ho5;have HR5:=h_ (ho5.rd (by rw [List.length_append];omega));have HB5:=h_ (HB2.trans (hb5.mono hsz2));clear ho5 hb5 HO4 HB4 HG3 HG4;go_wp2_with fail;refine (CC.o _ v5 (a ++ b) HB5.o HR5.o (hA.append hB) (by rw [List.length_append];omega)).mono ?_;rintro e w6 ⟨v6,rfl,hp,hb⟩;have HB6:=bT HB5 hb;have HP6:=h_ hp;clear hp hb CC;go_wp2;go_ret2;exact ⟨_,by rw [HE.o];rfl,by rw [HX.o];exact HP6.lower HB5.size,HB6.o⟩
  have HE:=h_ (show sumE cs a b=y from by unfold sumE;rw [if_neg (by omega),if_pos (by omega),hy]);have HX:=h_ (show sumO cs a b=[] from by unfold sumO;rw [if_neg (by rw [HE.o];exact hy0)]);have q:((y:Int) != 0)=true:=by rw [bne_iff_ne];omega
  clear hx hy CC;go_enter func146,ntmps146;go_wp2_with fail;refine CA.mono ?_;rintro e w1 ⟨rfl,hb⟩;have HB1:=h_ hb;clear hb CA;go_wp2_with fail;refine (CB.o _ HB1.o).mono ?_;rintro e w2 ⟨rfl,hb⟩;have HB2:=bT HB1 hb;clear hb CB HB1;go_wp2;go_ret2;exact ⟨_,by rw [HE.o];rfl,by rw [HX.o];exact NewP.nil _ _,HB2.o⟩
 have HE:=h_ (show sumE cs a b=x from by unfold sumE;rw [if_pos (by omega),hx]);have HX:=h_ (show sumO cs a b=[] from by unfold sumO;rw [if_neg (by rw [HE.o];exact hx0)]);have q:((x:Int) != 0)=true:=by rw [bne_iff_ne];omega
 have q2:((x:Int) == 0)=false:=by rw [beq_eq_false_iff_ne];omega
 clear hx hy CC CB;go_enter func146,ntmps146;go_wp2_with fail;refine CA.mono ?_;rintro e w1 ⟨rfl,hb⟩;have HB1:=h_ hb;clear hb CA;go_wp2;go_ret2;exact ⟨_,by rw [HE.o];rfl,by rw [HX.o];exact NewP.nil _ _,HB1.o⟩
