/- -/
import Derived.Test.YtlapgdocpndfiaaGreatDoorUBatW
import Derived.Deep.AppendLies
set_option maxHeartbeats 16000000
set_option linter.unusedVariables false
set_option linter.unusedSimpArgs false
set_option maxRecDepth 1000000
namespace Go.Proofs.YtlapgdocpndfiaaGreatDoor
open _root_.Go.Proofs.Tryz
open Go.RowKit Go.Shelf
theorem zbX {w:World} {a b:Nat} {x y:Array Value} {T U:TypeId} {z z':Nat × Nat} (h1:w.heap[a]?=some (.cells x T z)) (h2:w.heap[b]?=some (.cells y U z')) (hTU:T≠U):a≠b:=by
 rintro rfl;rw [h1] at h2;injection h2 with h2
 injection h2 with _ h3 _
 exact hTU h3
theorem OwnE.own_type {w:World} {base q:Nat} {v:Value} {cs:List CellB} (h:OwnE w base v cs) (hq:v.ownBlock=some q):∃ cur,w.heap[q]?=some (.cells cur 82 (0,0)):=by
 rcases h.1.2 with ⟨rfl,_⟩ | ⟨g,cap,cur,rfl,_,hg,_⟩
 ·cases hq
 simp only [Value.ownBlock] at hq;injection hq with hq
 subst hq;exact ⟨cur,hg⟩
theorem zrH {E:Elt} {w:World} {base:Nat} {v:Value} {vs:List (List Value)} (h:OwnG E w base v vs):∃ ao tl cap,v=.slice ao tl cap:=by
 rcases h.1.2 with ⟨rfl,_⟩ | ⟨q,cap,cur,rfl,_⟩
 ·exact ⟨_,_,_,rfl⟩
 exact ⟨_,_,_,rfl⟩
structure Lays (w w':World) (base gP gs ga n j:Nat) (us:List TriB) (u:TriB) (c:CellB) (rv:Value):Prop where
 own:OwnM w' base gP (us.set j (rv,(u.2.1 ++ [c],u.2.2)))
 set:w'.heap[gs]?=some (.cells #[.slice (some ⟨gP,0,none⟩) n n] 43 (0,0))
 at_:w'.heap[ga]?=some (.cells #[.int .i64 (((j + 1) % n:Nat):Int)] 3 (0,0))
 only:Only (fun q=>q=ga∨q=gP∨u.1.ownBlock=some q) w w'
 place:rv.ownBlock=u.1.ownBlock∨∀ q,rv.ownBlock=some q->w.heap.size<=q
theorem zqI (base gP gs ga n j:Nat) (us:List TriB) (u:TriB) (x:Nat) (t:ByteArray) (w:World) (hO:OwnM w base gP us) (hn:us.length=n) (hj:us[j]?=some u) (hl:u.2.1.length + 1<=1024)
  (hs:w.heap[gs]?=some (.cells #[.slice (some ⟨gP,0,none⟩) n n] 43 (0,0))) (ha:w.heap[ga]?=some (.cells #[.int .i64 (j:Int)] 3 (0,0))) :
  Calls prog 247 #[.agg #[.int .u64 (x:Int),.string t],.pointer (some ⟨gs,0,none⟩),.pointer (some ⟨ga,0,none⟩)] w fun e w'=>e=.returned (.tuple #[])/\∃ rv,Lays w w' base gP gs ga n j us u (x,t) rv:=by
 have hjn:j < n:=by rw [<- hn];exact (List.getElem?_eq_some_iff.1 hj).1
 have hfew:=hO.few;rw [hn] at hfew;have n1:gs≠ga:=zbX hs ha (by decide);have n2:gs≠gP:=zbX hs hO.blk (by decide);have n3:ga≠gP:=zbX ha hO.blk (by decide);have hlt:=hO.lt;have hsl:gs < w.heap.size:=(Array.getElem?_eq_some_iff.1 hs).1;have hal:ga < w.heap.size:=(Array.getElem?_eq_some_iff.1 ha).1;obtain ⟨W,hW⟩:=nm_ (w.alloc (.cells #[.int .u64 (x:Int),.string t] 82));have hbW:Below w.heap.size w W:=by rw [hW];exact (Below.refl _ _).alloc l_ _
 have hbx:W.heap[w.heap.size]?=some (.cells #[.int .u64 (x:Int),.string t] 82 (0,0)):=by rw [hW];exact heap_alloc_new _ _
 have hWs:W.heap.size=w.heap.size + 1:=by rw [hW,World.size_alloc]
 have hOW:=hO.later hbW;have hsW:W.heap[gs]?=some (.cells #[.slice (some ⟨gP,0,none⟩) n n] 43 (0,0)):=(hbW.block gs hsl).trans hs;have haW:W.heap[ga]?=some (.cells #[.int .i64 (j:Int)] 3 (0,0)):=(hbW.block ga hal).trans ha;obtain ⟨B,hB⟩:=nm_ w.heap.size;rw [<- hB] at hbx hWs;have b0:W.cell? ⟨B,0,none⟩=some (.int .u64 (x:Int)):=by rw [cell_of_row _ _ _ _ _ _ hbx];rfl
 have b1:W.cell? ⟨B,1,none⟩=some (.string t):=by rw [cell_of_row _ _ _ _ _ _ hbx];rfl
 have s0:W.cell? ⟨gs,0,none⟩=some (.slice (some ⟨gP,0,none⟩) n n):=by rw [cell_of_row _ _ _ _ _ _ hsW];rfl
 have a0:W.cell? ⟨ga,0,none⟩=some (.int .i64 (j:Int)):=by rw [cell_of_row _ _ _ _ _ _ haW];rfl
 have hi7:∀ u9,(Instr.indexAt 43 (.slice (some ⟨gP,0,none⟩) n n) (.int .i64 (j:Int))).run prog u9=.ok (.pointer (some ⟨gP,2 * j,none⟩)) u9:=by
  have:=hO.idx (i:=j) (by rw [hn];exact hjn);rw [hn] at this;exact this
 have hln:∀ u9,(Builtin.len_ #[43] 3 #[.slice (some ⟨gP,0,none⟩) n n]).run prog u9=.ok (.int .i64 (n:Int)) u9:=by
  have:=hO.len;rw [hn] at this;exact this
 obtain ⟨k9,_,f9,_⟩:=hOW.cell hj;have hbl7:Below W.heap.size W (W.alloc (.cells #[.int .u64 (x:Int),.string t] 82)):=(Below.refl _ _).alloc l_ _;have k9a:(W.alloc (.cells #[.int .u64 (x:Int),.string t] 82)).cell? ⟨gP,2 * j,none⟩=some u.1:=((hOW.later hbl7).cell hj).1;have hrow:=hOW.rows j u hj;have HRow:=h_ (show OwnG zeE ((W.alloc (.cells #[.int .u64 (x:Int),.string t] 82)).drew) (gP + 1) u.1 (u.2.1.map cellVs) from (hrow.alloc _).drew);obtain ⟨rv,hrv⟩:=nm_ u.1;rw [<- hrv] at k9 k9a HRow;have HRv:=h_ hrv
 have hne9:=h_ (show ∀ q,rv.ownBlock=some q->q≠gP/\q≠gs/\q≠ga from fun q hq=>by
  obtain ⟨cur,hc⟩:=OwnE.own_type hrow (by rw [<- hrv];exact hq)
  exact ⟨zbX hc hOW.blk (by decide),zbX hc hsW (by decide),zbX hc haW (by decide)⟩)
 have H1c:=h_ (zcM W (x,t));have HSz:=h_ (show gP + 1<=W.heap.size from by have:=hOW.lt;omega);have HNs:=h_ (show gs < W.heap.size/\ga < W.heap.size/\gs≠ga/\gs≠gP/\ga≠gP from ⟨by omega,by omega,n1,n2,n3⟩);have HOW:=h_ hOW;have HSW:=h_ hsW;have HAW:=h_ haW;have HBW:=h_ hbW;have HWE:=h_ hW;have HB:=h_ hB;have HWs:=h_ hWs;have s9:=s0;have a9:=a0;rw [hW] at s9 a9;have HJ:=h_ hj;have HJN:=h_ hjn;clear hO hj hs ha n1 n2 n3 hlt hsl hal hbx hOW hsW haW hbl7 hrow hrv hbW hW hB hWs;go_enter func247,ntmps247;go_wp2_with fail;rw [<- HWE.o];rw [<- HB.o];clear s9 a9
 go_region_law (first
  | (refine zoM zcX (gP + 1) rv (cellVs (x,t)) ⟨W.heap.size,0,none⟩ (by rfl) (by rfl) HRow.o (by rfl) rfl (by intro z hz;simp [cellVs] at hz;rcases hz with rfl | rfl <;> rfl) H1c.o (by simp;show _ * 24<=_;omega) (by simp;omega) (by show gP + 1<=(W.alloc _).heap.size;rw [World.size_alloc];have:=HSz.o;omega) (gP + 1) _ (Below.refl _ _) l_ ?_;intro v9 w9 q1 q2 q3 q4;obtain ⟨ao9,tl9,cap9,hv9⟩:=zrH q1;subst hv9;have c9:w9.cell? ⟨gP,2 * j,none⟩=some rv:=(World.cell?_of_block (q2.block gP (by omega))).trans k9a;have f9':w9.frozen? ⟨gP,2 * j,none⟩=false:=(World.frozen?_of_block ((q2.block gP (by omega)).trans (Below.heap_alloc W _ _ (by have:=HSz.o;omega)))).trans f9;have Q1:=h_ q1;have Q3:=h_ q3;have Q4:=h_ q4;have Q2:=h_ q2;clear q1 q2 q3 q4))
 all_goals (
  have hal:Below W.heap.size W ((W.alloc (.cells #[.int .u64 (x:Int),.string t] 82)).drew):=((Below.refl _ _).alloc l_ _).drew
  have hgs:w9.grownBy (w9.setCell ⟨gP,2 * j,none⟩ (.slice ao9 tl9 cap9)) (some gP):=za2 (World.grownBy.refl _ _) _
  obtain ⟨m1,m2,m3,m4,m5⟩:=HNs.o
  have hgt:=HOW.lt
  have hOX:=(HOW.later hal).grow HJ.o (rv:=.slice ao9 tl9 cap9) (c:=(x,t)) (w':=w9) (by
   have:=Q1.o
   show OwnG zeE w9 (gP + 1) _ ((u.2.1 ++ [(x,t)]).map cellVs)
   rw [List.map_append];exact this) (by rw [<- HRv.o];exact Q3.o) (by rw [<- HRv.o];exact Q4.o) (by omega)
  have hsX:(w9.setCell ⟨gP,2 * j,none⟩ (.slice ao9 tl9 cap9)).heap[gs]?=some (.cells #[.slice (some ⟨gP,0,none⟩) n n] 43 (0,0)) :=
   (hgs.block gs (by have:=Q3.size;have:=hal.size;omega) (fun e=>by injection e with e;omega)).trans ((Q3.block gs (by have:=hal.size;omega) (fun e=>(hne9.o gs e.symm).2.1 rfl)).trans ((hal.block gs m1).trans HSW.o))
  have haX:(w9.setCell ⟨gP,2 * j,none⟩ (.slice ao9 tl9 cap9)).heap[ga]?=some (.cells #[.int .i64 (j:Int)] 3 (0,0)) :=
   (hgs.block ga (by have:=Q3.size;have:=hal.size;omega) (fun e=>by injection e with e;omega)).trans ((Q3.block ga (by have:=hal.size;omega) (fun e=>(hne9.o ga e.symm).2.2 rfl)).trans ((hal.block ga m2).trans HAW.o))
  have hoX:Only (fun q=>q=gP∨u.1.ownBlock=some q) w (w9.setCell ⟨gP,2 * j,none⟩ (.slice ao9 tl9 cap9)):=by
   have e1:=HBW.size
   refine ⟨hgs.os.trans (Q3.os.trans (hal.os.trans HBW.os)),hgs.tape.trans (Q3.tape.trans (hal.tape.trans HBW.tape)),hgs.output.trans (Q3.output.trans (hal.output.trans HBW.output)),Nat.le_trans e1 (Nat.le_trans hal.size (Nat.le_trans Q3.size hgs.size)),fun q h1 h2=>?_⟩
   have hq1:q≠gP:=fun e=>h2 (.inl e)
   have hq2:some q≠rv.ownBlock:=fun e=>h2 (.inr (by rw [<- HRv.o];exact e.symm))
   exact (hgs.block q (by have:=Q3.size;have:=hal.size;omega) (fun e=>by injection e with e;exact hq1 e)).trans ((Q3.block q (by have:=hal.size;omega) hq2).trans ((hal.block q (by omega)).trans (HBW.block q h1)))
  generalize w9.setCell ⟨gP,2 * j,none⟩ (.slice ao9 tl9 cap9)=WX at *
  obtain ⟨r,hr⟩:=nm_ ((j + 1) % n)
  have hrem:Int.tmod ((j:Int) + 1) (n:Int)=(r:Int):=by
   rw [Int.tmod_eq_emod_of_nonneg (by omega),hr];rfl
  have hn0:((n:Int) == 0)=false:=by rw [beq_eq_false_iff_ne];omega
  have s7:WX.cell? ⟨gs,0,none⟩=some (.slice (some ⟨gP,0,none⟩) n n):=by rw [cell_of_row _ _ _ _ _ _ hsX];rfl
  have a7:WX.cell? ⟨ga,0,none⟩=some (.int .i64 (j:Int)):=by rw [cell_of_row _ _ _ _ _ _ haX];rfl
  have af:WX.frozen? ⟨ga,0,none⟩=false:=frozen_of_row _ _ _ _ _ haX
  have hga:WX.grownBy (WX.setCell ⟨ga,0,none⟩ (.int .i64 (r:Int))) (some ga):=za2 (World.grownBy.refl _ _) _
  have HFin:=h_ (show Lays w (WX.setCell ⟨ga,0,none⟩ (.int .i64 (r:Int))) base gP gs ga n j us u (x,t) (.slice ao9 tl9 cap9) from by
   refine ⟨hOX.aside hga (fun q hq=>?_),?_,?_,?_,?_⟩
   ·injection hq with hq
    subst hq
    refine ⟨m5,fun z hz e=>?_⟩
    obtain ⟨i,hi⟩:=List.getElem?_of_mem hz
    obtain ⟨cur,hc⟩:=OwnE.own_type (hOX.rows i z hi) e
    exact zbX hc haX (by decide) rfl
   ·exact (hga.block gs (Array.getElem?_eq_some_iff.1 hsX).1 (fun e=>by injection e with e;exact m3 e)).trans hsX
   ·rw [block_setCell haX _,<- hr];rfl
   ·refine ⟨hga.os.trans hoX.os,hga.tape.trans hoX.tape,hga.output.trans hoX.output,Nat.le_trans hoX.size hga.size,fun q h1 h2=>?_⟩
    exact (hga.block q (by have:=hoX.size;omega) (fun e=>by injection e with e;exact h2 (.inl e))).trans (hoX.block q h1 (fun h3=>h2 (.inr h3)))
   ·rcases Q4.o with h | h
    ·exact .inl (by rw [<- HRv.o];exact h)
    ·refine .inr (fun q hq=>?_)
     have h1:=h q hq
     have h2:=hal.size
     have h3:=HBW.size
     omega)
  clear hOX hsX haX hoX hga hr hgs hal hgt m1 m2 m3 m4 m5 Q1 Q2 Q3 Q4 c9 f9' k9 k9a f9 b0 b1 s0 a0
  go_wp2
  go_end0
  exact ⟨rfl,_,HFin.o⟩)
theorem zsA (v:Value) (w:World) (hv:∃ ao tl cap,v=.slice ao tl cap) :
  Calls prog 216 #[v] w fun e w'=>e=.returned (.func (.func 247) #[] #[.pointer (some ⟨w.heap.size,0,none⟩),.pointer (some ⟨w.heap.size + 1,0,none⟩)]) /\
   w'=(w.alloc (.cells #[v] 43)).alloc (.cells #[.int .i64 0] 3):=by
 obtain ⟨ao,tl,cap,rfl⟩:∃ ao tl cap,v=.slice ao tl cap:=hv;go_enter func216,ntmps216;go_wp2;go_ret;exact ⟨rfl,rfl⟩
theorem zp9 (n:Nat) (hn:n<=1024) (u:World):(Instr.makeSlice 43 (.int .u64 (n:Int)) (.int .u64 (n:Int))).run prog u =
  .ok (.slice (some ⟨u.heap.size,0,none⟩) n n) (u.alloc (.cells (List.replicate n (triV (.slice none 0 0,([],0)))).flatten.toArray 86)):=by
 obtain ⟨i0,hi,hz0,hz1,hz2⟩:=info_parts zpE;have h:=run_make (P:=prog) u 43 86 i0 (.agg #[.slice none 0 0,.int .i64 0]) underlying43 hi hz0 .u64 .u64 (n:Int) (n:Int) (by omega) (Int.le_refl _) (by rw [hz2];omega) (by omega);rw [h,hz1,Int.toNat_natCast,<- List.map_replicate,zjW];congr 3;simp [madeCells,Value.cells];apply Array.ext
 ·simp
 intro i h1 h2;simp
/- -/
theorem OwnE.same9 {w w':World} {base:Nat} {v:Value} {cs:List CellB} (h:OwnE w base v cs) (hs:∀ q,v.ownBlock=some q->w'.heap[q]?=w.heap[q]?):OwnE w' base v cs:=by
 obtain ⟨⟨h0,h1⟩,h2⟩:=h;refine ⟨⟨h0,?_⟩,h2⟩;rcases h1 with ⟨rfl,hn⟩ | ⟨g,cap,cur,rfl,hbg,hg,hn⟩
 ·exact .inl ⟨rfl,hn⟩
 exact .inr ⟨g,cap,cur,rfl,hbg,(hs g rfl).trans hg,hn⟩
theorem zAV {l:Bs} {k most:Nat}:(rdU l k most).1 < 2 ^ 64:=by
 unfold rdU;split
 ·simp
 split
 ·simp
 rename_i h _;exact (zaU _ (Decidable.of_not_not h)).1
def zzV (w0:World) (g:Nat) (v:Value) (l:Bs) (R:List Bp × Nat × Nat) (e:Ending) (w':World):Prop :=
 Only (fun j=>j=g) w0 w'/\((R.2.2=0/\∃ tv ps,e=.returned tv/\NewP w' w0.heap.size tv ps/\PSO ps/\psL ps=R.1/\Rdr w' g v l R.2.1) ∨
  (R.2.2≠0/\e=.panicked [{ v:=zaR g R.2.2,recovered:=false }]/\zi9 w' g v l R.2.1 R.2.2))
theorem zgP {w0 w':World} {g:Nat} {v:Value} {l:Bs} {R:List Bp × Nat × Nat} {k x:Nat} (hO:Only (fun j=>j=g) w0 w') (hR:R.2.1=k/\R.2.2=x) (hx:x≠0) (hE:zi9 w' g v l k x) :
  zzV w0 g v l R (.panicked [{ v:=zaR g x,recovered:=false }]) w':=by
 obtain ⟨rfl,rfl⟩:=hR;exact ⟨hO,.inr ⟨hx,rfl,hE⟩⟩
theorem zFT {w wz:World} {g:Nat} (hT:Tabs w) (hg:zcA<=g) (h:Only (fun j=>j=g) w wz):Tabs wz :=
 zfY hT fun j hj=>h.block j (Nat.lt_of_lt_of_le hj (zmT hT)) (fun e=>by omega)
theorem zvP (sv : Value) (cs : List ColB) (g : Nat) (v : Value) (l : Bs) (k0 : Nat) (w : World) (hR : Rdr w g v l k0) (hC : CS cs) (hT : Tabs w) (hg : zcA <= g)
    (hsv : ∀ wz, Only (fun j => j = g) w wz -> RdC wz sv cs) :
    Calls prog 166 #[.pointer (some ⟨g, 0, none⟩), sv] w (zzV w g v l (bat (ltE cs) (errS (colsL cs)) l (kindsL cs) k0)) := by
 have hgl:=hR.lt;have h0v:=hsv w (Only.refl _ _);have hlc:=h0v.len;have SC:=Lib.hid (zaW sv cs w h0v hC hT);have HTb:=Lib.hid (fun wz (h:Only (fun j=>j=g) w wz)=>zFT hT hg h);obtain ⟨E,hE⟩:=nm_ (errS (colsL cs));obtain ⟨R,hR9⟩:=nm_ (bat (ltE cs) (errS (colsL cs)) l (kindsL cs) k0);rw [<- hR9];rw [<- hE] at SC hR9;by_cases hE0:E=0
 ·subst hE0;have hR1:R=btRd (ltE cs) l (kindsL cs) k0:=by rw [hR9];unfold bat;rw [if_neg (by simp)]
  have hnl:(rdU l k0 1024).1<=1024:=by
   unfold rdU;split
   ·omega
   split <;> dsimp only <;> omega
  have HRc:=Lib.hid (fun h=>hR1.trans (zqD h));have HRe:=Lib.hid (fun (h:(rdU l k0 1024).2.2≠0)=>show R.2.1=(rdU l k0 1024).2.1/\R.2.2=(rdU l k0 1024).2.2 from by rw [hR1];unfold btRd;rw [if_pos h];exact ⟨rfl,rfl⟩);have hcl:cs.length<=8:=by have:=(zaM hE.symm).2.1;rw [za4] at this;exact this
  obtain ⟨K,hKn⟩:=nm_ cs.length;rw [<- hKn] at hlc hcl;have HKn:=Lib.hid hKn;have HSv:=Lib.hid hsv;have HRd:=Lib.hid hR;have HGL:=Lib.hid hgl;have HG:=Lib.hid hg;have HVB:=Lib.hid (fun q (hq:q < l.length)=>(⟨hR.rd.block hq,hR.off q hq⟩:_/\_));clear hR9 hR1 hKn hsv hR hgl hg h0v hE hT;go_enter func166,ntmps166;go_wp2_with fail;refine SC.mono ?_;rintro e w1 ⟨rfl,hb⟩;have HO1:=Lib.hid (show Only (fun j=>j=g) w w1 from (Only.refl _ _).below hb (Nat.le_refl _));have HR1:=Lib.hid (HRd.later hb (Nat.le_refl _));clear hb SC HRd;go_wp2_with fail;refine (zbW g v l k0 w1 HR1.o 1024 (by decide)).mono ?_;intro e w2 hu;rcases hr:rdU l k0 1024 with ⟨n,k1,x1⟩
  rw [hr] at hu hnl HRc HRe;dsimp only at hu hnl HRc HRe ⊢;by_cases hx1:x1=0
  ·subst hx1;obtain ⟨rfl,hg2,hR2⟩:=hu.ok rfl;have HRf:=Lib.hid (HRc.o rfl);have HO2:=Lib.hid (HO1.grown hg2 rfl);have HR2:=Lib.hid hR2;have hmk:=zp9 n hnl;have HO3:=Lib.hid (OwnM.made w2 w.heap.size n HO2.size hnl);have hb3:Below w2.heap.size w2 (w2.alloc (.cells (List.replicate n (triV (.slice none 0 0,([],0)))).flatten.toArray 86)):=(Below.refl _ _).alloc (Nat.le_refl _) _;have HR3:=Lib.hid (HR2.later hb3 (Nat.le_refl _));have HOn3:=Lib.hid (HO2.below hb3 (Nat.le_refl _));clear hu hg2 hR2 hr HO1 HR1 HRc HRe hb3;go_wp2_with fail;generalize w2.alloc (.cells (List.replicate n (triV (.slice none 0 0,([],0)))).flatten.toArray 86)=w3 at *;generalize w2.heap.size=gP at *;clear HO2 HR2 hmk;refine (zsA (.slice (some ⟨gP,0,none⟩) n n) w3 ⟨_,_,_,rfl⟩).mono ?_;rintro e w4 ⟨rfl,hw4⟩;obtain ⟨N0,N1,N2,N3⟩:=new2 w3 (.cells #[.slice (some ⟨gP,0,none⟩) n n] 43) (.cells #[.int .i64 0] 3);rw [<- hw4] at N0 N1 N2 N3;have HGP:=Lib.hid (show w.heap.size<=gP from HO3.lo);have HOn4:=Lib.hid (HOn3.below N3 (Nat.le_refl _));have HR4:=Lib.hid (HR3.later N3 (Nat.le_refl _));have HO4:=Lib.hid (HO3.later N3);have hw3:=HOn3.size;obtain ⟨gs,hgs⟩:=nm_ w3.heap.size;obtain ⟨ga,hga⟩:=nm_ (w3.heap.size + 1);rw [<- hga];rw [<- hgs];rw [<- hgs] at N1;rw [<- hga] at N2;have HGs:=Lib.hid (show w.heap.size<=gs/\w.heap.size<=ga from by omega);obtain ⟨v7,hv7⟩:=nm_ (Value.slice (some ⟨gP,0,none⟩) n n);rw [<- hv7] at N1 ⊢;have HV7:=Lib.hid hv7;have HS4:=Lib.hid N1;have HA4:=Lib.hid N2;have HL0:=Lib.hid (show (List.replicate n ((.slice none 0 0,([],0)):TriB)).length=n by simp)
   have HW0 := Lib.hid (show ∀ t ∈ List.replicate n ((.slice none 0 0, ([], 0)) : TriB), t.2.1.length <= 0 from fun t ht => by
     have := List.eq_of_mem_replicate ht
     subst this; simp)
   have HJ0 := Lib.hid (show ([] : List (List Ce)).length = 0 /\ zh7 (List.replicate n ((.slice none 0 0, ([], 0)) : TriB)) [] /\ R = zcC (ltE cs) l n [] ((kindsL cs).drop 0) k1 from ⟨rfl, fun i t hi => by
     have := List.eq_of_mem_replicate (List.mem_of_getElem? hi)
     subst this
     exact ⟨rfl, rfl, CES.nil9⟩, by rw [List.drop_zero]; exact HRf.o⟩)
   have hln7:∀ u9,(Builtin.len_ #[43] 3 #[v7]).run prog u9=.ok (.int .i64 (n:Int)) u9:=by
    have:=HO4.len;rw [HL0.o,<- hv7] at this;exact this
   clear N0 N1 N2 N3 hw4 hw3 hgs hga hv7 HRf HO3 HR3 HOn3;go_wp2
   go_loopw [28] (fun i wr => ∃ (k kk : Nat) (ts : List TriB) (done : List (List Ce)), k <= K /\ i = .int .i64 k /\ Hid (Rdr wr g v l kk) /\ Hid (Only (fun j => j = g) w wr) /\ Hid (OwnM wr w.heap.size gP ts) /\ Hid (ts.length = n) /\ Hid (∀ t ∈ ts, t.2.1.length <= k) /\
     Hid (wr.heap[gs]? = some (.cells #[v7] 43 (0, 0))) /\ Hid (wr.heap[ga]? = some (.cells #[.int .i64 0] 3 (0, 0))) /\
     Hid (done.length = k /\ zh7 ts done /\ R = zcC (ltE cs) l n done ((kindsL cs).drop k) kk)) (fun i _ => K - (intOf i).toNat)
   case atStart=>exact ⟨0,k1,_,[],by omega,rfl,HR4,HOn4,HO4,HL0,HW0,HS4,HA4,HJ0⟩
   clear HR4 HOn4 HO4 HL0 HW0 HS4 HA4 HJ0;obtain ⟨k,kk,ts,done,hk,rfl,HR,HOn,HO,HL,HWd,HS,HA,HJ⟩:=hrel;by_cases hlt:k < K
   ·have d1:decide ((k:Int) < (K:Int))=true:=decide_eq_true (by omega);have hkc:k < cs.length:=(by rw [<- HKn.o];exact hlt);have hrc:=HSv.o wr HOn.o;obtain ⟨b,o,hidx,hcell,_⟩:=hrc.get hkc;obtain ⟨e0,e1⟩:=hcell _ hrc;rcases hcg:cs.getD k default with ⟨nm,kd⟩
    rw [hcg] at e0 e1;dsimp only at e0 e1;have HCG:=Lib.hid hcg;obtain ⟨W5,hW5⟩:=nm_ (wr.alloc (.cells #[.string nm,.int .i64 kd] 79));have hb5:Below wr.heap.size wr W5:=(by rw [hW5];exact (Below.refl _ _).alloc (Nat.le_refl _) _);have HR5:=Lib.hid (HR.later hb5 (Nat.le_refl _));have HOn5:=Lib.hid (HOn.below hb5 (Nat.le_refl _));have HO5:=Lib.hid (HO.later hb5);have HS5:=Lib.hid ((hb5.block gs (Array.getElem?_eq_some_iff.1 HS.o).1).trans HS.o);have HA5:=Lib.hid ((hb5.block ga (Array.getElem?_eq_some_iff.1 HA.o).1).trans HA.o);have HKk:=Lib.hid HR.le;have TK:=Lib.hid (zs0 kd (n:Int) g v l kk W5 HR5.o (HTb.o _ HOn5.o) HG.o);have HW5:=Lib.hid hW5;clear hrc hcell hcg hb5 hW5 HR HOn HO HS HA;go_wp2_with fail;rw [<- HW5.o];refine TK.mono ?_;rintro e w6 ⟨hon6,hcase⟩;have HOn6:=Lib.hid (HOn5.trans9 hon6 (fun j _ h=>h))
    have HO6 := Lib.hid (HO5.aside (r := some g) ⟨hon6.os, hon6.tape, hon6.output, hon6.size, fun j h1 h2 => hon6.block j h1 (fun e => h2 (by rw [e]))⟩ (fun q hq => by
      injection hq with hq
      subst hq
      refine ⟨by have := HGL.o; have := HGP.o; omega, fun t ht e => ?_⟩
      obtain ⟨i, hi⟩ := List.getElem?_of_mem ht
      have := (OwnE.lt (HO5.rows i t hi) e).1
      have := HGL.o
      have := HGP.o
      omega))
    have HS6:=Lib.hid ((hon6.block gs (Array.getElem?_eq_some_iff.1 HS5.o).1 (fun e=>by have:=HGs.o;have:=HGL.o;omega)).trans HS5.o);have HA6:=Lib.hid ((hon6.block ga (Array.getElem?_eq_some_iff.1 HA5.o).1 (fun e=>by have:=HGs.o;have:=HGL.o;omega)).trans HA5.o);have hkd:(kindsL cs).drop k=kd :: (kindsL cs).drop (k + 1):=by
     have hkl:k < (kindsL cs).length:=(by unfold kindsL;rw [List.length_map];exact hkc);have he:(kindsL cs)[k]?=some kd:=by
      have:=HCG.o;simp [List.getD,hkc] at this;unfold kindsL;rw [List.getElem?_map,List.getElem?_eq_getElem hkc,this];rfl
     rw [List.drop_eq_getElem_cons hkl,(List.getElem?_eq_some_iff.1 he).2]
    obtain ⟨hdl,hra,hRd⟩:=HJ.o;rw [hkd] at hRd;by_cases hx2:(rdK l kd n kk).2.2=0
    ·obtain ⟨_,tv,lcs,rfl,hOl,hCl,hce,hR6⟩ | ⟨h9,_,_⟩:=hcase
     case inr=>exact absurd hx2 h9
     have HRd:=Lib.hid (show R=zcC (ltE cs) l n (done ++ [(rdK l kd n kk).1]) ((kindsL cs).drop (k + 1)) (rdK l kd n kk).2.1 from by rw [hRd,zkQ hx2]);obtain ⟨_,_,_,_,hlen,_⟩:=zn1 HKk.o hx2;have hpl:lcs.length=n:=by
      have:(cesL lcs).length=n:=(by rw [hce];omega);rw [za8] at this;exact this
     have HPl:=Lib.hid hpl;have HCe:=Lib.hid hce;obtain ⟨k2,hk2⟩:=nm_ ((rdK l kd n kk).2.1);rw [<- hk2] at hR6 HRd;have HR6:=Lib.hid hR6;obtain ⟨bl,hbl⟩:=nm_ W5.heap.size;rw [<- hbl] at hOl;have HOl:=Lib.hid hOl;have HCl:=Lib.hid hCl;have HRa:=Lib.hid hra;have HDl:=Lib.hid hdl
     have HBl := Lib.hid (show ∀ t ∈ ts, ∀ q, t.1.ownBlock = some q -> q < bl from fun t ht q e => by
       obtain ⟨i, hi⟩ := List.getElem?_of_mem ht
       have := (OwnE.lt (HO5.rows i t hi) e).2
       omega)
     have HGb := Lib.hid (show gP < bl /\ gs < bl /\ ga < bl from by
       rw [hbl]; exact ⟨HO5.lt, (Array.getElem?_eq_some_iff.1 HS5.o).1, (Array.getElem?_eq_some_iff.1 HA5.o).1⟩)
     have hln:=(hOl.rd (by omega)).len;rw [hpl] at hln;clear hon6 hOl hCl hce hR6 hk2 hbl hra hdl hRd hkd hlen hpl HR5 HOn5 HO5 HS5 HA5 TK HJ hx2 HW5 e0 e1 hidx;go_wp2
     go_loopw [39] (fun i wi => ∃ (j : Nat) (us : List TriB), j <= n /\ i = .int .i64 j /\ Hid (Rdr wi g v l k2) /\ Hid (Only (fun j => j = g) w wi) /\ Hid (OwnM wi w.heap.size gP us) /\ Hid (us.length = n) /\ Hid (OwnE wi bl tv lcs) /\
       Hid (wi.heap[gs]? = some (.cells #[v7] 43 (0, 0))) /\ Hid (wi.heap[ga]? = some (.cells #[.int .i64 ((j % n : Nat) : Int)] 3 (0, 0))) /\
       Hid (∀ (i : Nat) (t : TriB), ts[i]? = some t -> ∃ u, us[i]? = some u /\ u.2.2 = t.2.2 /\ u.2.1 = if i < j then t.2.1 ++ [lcs.getD i default] else t.2.1) /\ Hid (∀ u ∈ us, ∀ q, u.1.ownBlock = some q -> tv.ownBlock ≠ some q)) (fun i _ => n - (intOf i).toNat)
     case atStart=>exact ⟨0,ts,by omega,rfl,HR6,HOn6,HO6,HL,HOl,HS6,Lib.hid (by rw [Nat.zero_mod];exact HA6.o),Lib.hid (fun i t hi=>⟨t,hi,rfl,by rw [if_neg (by omega)]⟩),Lib.hid (fun t ht q h1 h2=>by have h3:=HBl.o t ht q h1;have:=(OwnE.lt HOl.o h2).1;omega)⟩
     clear HR6 HOn6 HO6 HS6 HA6 HOl;obtain ⟨j,us,hj,rfl,HR,HOn,HO,HLu,HOl,HS,HA,HRw,HAp⟩:=hrel;by_cases hjn:j < n
     ·have d2:decide ((j:Int) < (n:Int))=true:=decide_eq_true (by omega);obtain ⟨u,hu⟩:∃ u,us[j]?=some u:=⟨us[j]'(by rw [HLu.o];exact hjn),List.getElem?_eq_getElem (by rw [HLu.o];exact hjn)⟩;have hz1:u.2.1.length<=k:=by
       obtain ⟨t9,ht9⟩:∃ t,ts[j]?=some t:=⟨ts[j]'(by rw [HL.o];exact hjn),List.getElem?_eq_getElem (by rw [HL.o];exact hjn)⟩;obtain ⟨u9,h2,_,h3⟩:=HRw.o j t9 ht9;rw [hu] at h2;injection h2 with h2
       subst h2;rw [if_neg (by omega)] at h3;rw [h3];exact HWd.o t9 (List.mem_of_getElem? ht9)
      have hlr:=HOl.rd (by rw [HPl.o];omega);obtain ⟨b,o,hidx,hcell,_⟩:=hlr.get (i:=j) (by rw [HPl.o];exact hjn);obtain ⟨e0,e1⟩:=hcell _ hlr;rcases hcg:lcs.getD j default with ⟨x,t⟩
      rw [hcg] at e0 e1;dsimp only at e0 e1;have HCG2:=Lib.hid hcg;obtain ⟨W8,hW8⟩:=nm_ (wr.alloc (.cells #[.int .u64 (x:Int),.string t] 82));have hb8:Below wr.heap.size wr W8:=(by rw [hW8];exact (Below.refl _ _).alloc (Nat.le_refl _) _);have HR8:=Lib.hid (HR.later hb8 (Nat.le_refl _));have HOn8:=Lib.hid (HOn.below hb8 (Nat.le_refl _));have HO8:=Lib.hid (HO.later hb8);have HOl8:=Lib.hid (HOl.later hb8 (Nat.le_refl _));have HS8:=Lib.hid ((hb8.block gs (Array.getElem?_eq_some_iff.1 HS.o).1).trans HS.o);have HA8:=Lib.hid ((hb8.block ga (Array.getElem?_eq_some_iff.1 HA.o).1).trans HA.o);have HU:=Lib.hid hu;have LY:=Lib.hid (zqI w.heap.size gP gs ga n j us u x t W8 HO8.o HLu.o hu (by omega) (by rw [<- HV7.o];exact HS8.o) (by rw [HA8.o,Nat.mod_eq_of_lt hjn]));have HW8:=Lib.hid hW8;clear hlr hcell hcg hb8 hW8 HR HOn HO HOl HS HA hu;go_wp2_with fail;rw [<- HW8.o];refine LY.mono ?_;rintro e w9 ⟨rfl,rv,hY⟩;have hyo:=hY.only;have hblk:∀ q,q=ga∨q=gP∨u.1.ownBlock=some q->w.heap.size<=q:=fun q h=>by
       rcases h with rfl | rfl | h
       ·exact HGs.2
       ·exact HGP.o
       have:=(OwnE.lt (HO8.rows j u HU.o) h).1;have:=HGP.o;omega
      have HR9:=Lib.hid (HR8.same (hyo.block g HR8.lt (fun h=>by have:=hblk g h;have:=HGL.o;omega)) (fun i hi=>hyo.block _ (HR8.rd.block hi) (fun h=>by have:=hblk _ h;have:=(HVB.o i hi).1;omega)));have HOn9:=Lib.hid (HOn8.trans9 hyo (fun q h1 h2=>by have:=hblk q h2;omega));have HO9:=Lib.hid hY.own;have HS9:=Lib.hid (by have:=hY.set;rw [<- HV7.o] at this;exact this);have HA9:=Lib.hid hY.at_
      have HOl9 := Lib.hid (HOl8.same9 (fun q hq => hyo.block q (OwnE.lt HOl8.o hq).2 (fun h => by
        rcases h with rfl | rfl | h
        · have := (OwnE.lt HOl8.o hq).1; have := HGb.2.2; omega
        · have := (OwnE.lt HOl8.o hq).1; have := HGb.1; omega
        · exact HAp.o u (List.mem_of_getElem? HU.o) q h hq)))
      have HRw9 := Lib.hid (show ∀ (i : Nat) (t' : TriB), ts[i]? = some t' -> ∃ u', (us.set j ((rv, (u.2.1 ++ [(x, t)], u.2.2)) : TriB))[i]? = some u' /\ u'.2.2 = t'.2.2 /\ u'.2.1 = if i < j + 1 then t'.2.1 ++ [lcs.getD i default] else t'.2.1 from fun i t' hi => by
        obtain ⟨u', h1, h2, h3⟩ := HRw.o i t' hi
        by_cases hij : i = j
        · subst hij
          rw [HU.o] at h1
          injection h1 with h1
          subst h1
          rw [if_neg (by omega)] at h3
          refine ⟨_, List.getElem?_set_self (by rw [HLu.o]; exact hjn), h2, ?_⟩
          rw [if_pos (by omega), HCG2.o]
          show u.2.1 ++ _ = _
          rw [h3]
        · refine ⟨u', by rw [List.getElem?_set_ne (by omega)]; exact h1, h2, ?_⟩
          rw [h3]
          by_cases h5 : i < j
          · rw [if_pos h5, if_pos (by omega)]
          · rw [if_neg h5, if_neg (by omega)])
      have HAp9 := Lib.hid (show ∀ u' ∈ us.set j ((rv, (u.2.1 ++ [(x, t)], u.2.2)) : TriB), ∀ q, u'.1.ownBlock = some q -> tv.ownBlock ≠ some q from fun u' hu' q h1 h2 => by
        rcases List.mem_or_eq_of_mem_set hu' with h3 | rfl
        · exact HAp.o u' h3 q h1 h2
        · rcases hY.place with h4 | h4
          · exact HAp.o u (List.mem_of_getElem? HU.o) q (by rw [<- h4]; exact h1) h2
          · have h5 := h4 q h1
            have h6 := (OwnE.lt HOl8.o h2).2
            omega)
      have HLu9:=Lib.hid (show (us.set j ((rv,(u.2.1 ++ [(x,t)],u.2.2)):TriB)).length=n by rw [List.length_set];exact HLu.o);clear hyo hblk hY LY HR8 HOn8 HO8 HOl8 HS8 HA8 HU HW8 HRw HAp HLu e0 e1 hidx;go_wp2;go_roundw
      case rel=>exact ⟨j + 1,_,by omega,by go_num,HR9,HOn9,HO9,HLu9,HOl9,HS9,HA9,HRw9,HAp9⟩
      simp [intOf];omega
     obtain rfl:j=n:=(by omega);have d2:decide ((j:Int) < (j:Int))=false:=decide_eq_false (by omega)
     have HWd9 := Lib.hid (show ∀ u ∈ us, u.2.1.length <= k + 1 from fun u hu => by
       obtain ⟨i, hi⟩ := List.getElem?_of_mem hu
       have hin : i < j := by rw [<- HLu.o]; exact (List.getElem?_eq_some_iff.1 hi).1
       obtain ⟨u', h1, _, h3⟩ := HRw.o i (ts[i]'(by rw [HL.o]; exact hin)) (List.getElem?_eq_getElem (by rw [HL.o]; exact hin))
       rw [hi] at h1
       injection h1 with h1
       subst h1
       have h4 := HWd.o (ts[i]'(by rw [HL.o]; exact hin)) (List.getElem_mem _)
       rw [h3]
       split
       · rw [List.length_append, List.length_singleton]; omega
       · omega)
     have HJ9 := Lib.hid (show (done ++ [(rdK l kd j kk).1]).length = k + 1 /\ zh7 us (done ++ [(rdK l kd j kk).1]) /\ R = zcC (ltE cs) l j (done ++ [(rdK l kd j kk).1]) ((kindsL cs).drop (k + 1)) k2 from by
       refine ⟨by rw [List.length_append, List.length_singleton, HDl.o], ?_, HRd.o⟩
       intro i u hi
       have hin : i < j := by rw [<- HLu.o]; exact (List.getElem?_eq_some_iff.1 hi).1
       obtain ⟨u', h1, h2, h3⟩ := HRw.o i (ts[i]'(by rw [HL.o]; exact hin)) (List.getElem?_eq_getElem (by rw [HL.o]; exact hin))
       rw [hi] at h1
       injection h1 with h1
       subst h1
       obtain ⟨r1, r2, r3⟩ := HRa.o i (ts[i]'(by rw [HL.o]; exact hin)) (List.getElem?_eq_getElem (by rw [HL.o]; exact hin))
       rw [if_pos hin] at h3
       refine ⟨?_, by rw [h2]; exact r2, by rw [h3]; exact r3.snoc9 (HCl.get (by rw [HPl.o]; exact hin))⟩
       rw [h3, zeT, r1, List.map_append, List.map_singleton, <- HCe.o, zm6 (by rw [HPl.o]; exact hin)])
     have HA9:=Lib.hid (show wr.heap[ga]?=some (.cells #[.int .i64 0] 3 (0,0)) from by rw [HA.o,Nat.mod_self];rfl);clear HRw HAp HOl HCl hjn HA;go_wp2;go_roundw
     case rel=>exact ⟨k + 1,k2,us,_,by omega,by go_num,HR,HOn,HO,HLu,HWd9,HS,HA9,HJ9⟩
     simp [intOf];omega
    obtain ⟨h9,_,_,_,_,_,_,_⟩ | ⟨_,rfl,hE⟩:=hcase
    ·exact absurd h9 hx2
    have HF:=Lib.hid (zgP (R:=R) HOn6.o (by rw [hRd,zmE hx2];exact ⟨rfl,rfl⟩) hx2 hE);clear hE hRd hon6;go_wp2;exact ⟨rfl,HF.o⟩
   obtain rfl:k=K:=(by omega);have d1:decide ((k:Int) < (k:Int))=false:=decide_eq_false (by omega);obtain ⟨hdl,hra,hRd⟩:=HJ.o;rw [List.drop_of_length_le (by unfold kindsL;rw [List.length_map,<- HKn.o];exact Nat.le_refl _),zmD] at hRd;have HRf:=Lib.hid (show R=zc7 (ltE cs) l n done [] n kk from hRd);have HRa:=Lib.hid hra;have HJ0:=Lib.hid (show ([]:List Int).length=0/\(∀ x ∈ ([]:List Int),inW x)/\(∀ (j:Nat) (u:TriB),ts[j]?=some u->j < 0->u.2.2=([]:List Int).getD j 0)/\R=zc7 (ltE cs) l n done [] (n - 0) kk from ⟨rfl,fun x hx=>absurd hx (by simp),fun j u _ h=>absurd h (by omega),HRf.o⟩);have HS0:=Lib.hid (show ∀ (j:Nat) (t:TriB),ts[j]?=some t->∃ u,ts[j]?=some u/\u.2.1=t.2.1 from fun j t h=>⟨t,h,rfl⟩);clear hRd hra HJ HRf hlt hdl HS HA;go_wp2
   go_loopw [50] (fun i wi => ∃ (i9 q : Nat) (us : List TriB) (ws : List Int), i9 <= n /\ i = .int .i64 i9 /\ Hid (Rdr wi g v l q) /\ Hid (Only (fun j => j = g) w wi) /\ Hid (OwnM wi w.heap.size gP us) /\ Hid (us.length = n) /\ Hid (∀ (j : Nat) (t : TriB), ts[j]? = some t -> ∃ u, us[j]? = some u /\ u.2.1 = t.2.1) /\
     Hid (ws.length = i9 /\ (∀ x ∈ ws, inW x) /\ (∀ (j : Nat) (u : TriB), us[j]? = some u -> j < i9 -> u.2.2 = ws.getD j 0) /\ R = zc7 (ltE cs) l n done ws (n - i9) q)) (fun i _ => n - (intOf i).toNat)
   case atStart=>exact ⟨0,kk,ts,[],by omega,rfl,HR,HOn,HO,HL,HS0,HJ0⟩
   clear HR HOn HO HJ0 HS0;obtain ⟨i9,q,us,ws,hi9,rfl,HR,HOn,HO,HLu,HSa,HJ⟩:=hrel;by_cases hin:i9 < n
   ·have d5:decide ((i9:Int) < (n:Int))=true:=decide_eq_true (by omega);obtain ⟨u,hu⟩:∃ u,us[i9]?=some u:=⟨us[i9]'(by rw [HLu.o];exact hin),List.getElem?_eq_getElem (by rw [HLu.o];exact hin)⟩;have hi7:∀ u9,(Instr.indexAt 43 v7 (.int .i64 (i9:Int))).run prog u9=.ok (.pointer (some ⟨gP,2 * i9,none⟩)) u9:=by
     have:=HO.idx (i:=i9) (by rw [HLu.o];exact hin);rw [HLu.o,<- HV7.o] at this;exact this
    obtain ⟨hwl,hww,hwe,hRw⟩:=HJ.o;rw [show n - i9=(n - (i9 + 1)) + 1 from by omega] at hRw;have HE1:=Lib.hid (fun h=>hRw.trans (zmC h));have HE2:=Lib.hid (fun h h2=>hRw.trans (zkP h h2));have HE3:=Lib.hid (fun h h2=>hRw.trans (zqE h h2));have HWl:=Lib.hid hwl;have HWw:=Lib.hid hww;have HWe:=Lib.hid hwe;go_wp2_with fail;refine (zlL g v l q wr HR.o).mono ?_;intro e w5 hur;have hyl:=zAV (l:=l) (k:=q) (most:=18446744073709551615);rcases hr:rdU l q 18446744073709551615 with ⟨y,k5,x5⟩
    rw [hr] at hur HE1 HE2 HE3 hyl;dsimp only at hur HE1 HE2 HE3 hyl ⊢;by_cases hx5:x5=0
    ·subst hx5;obtain ⟨rfl,hg5,hR5⟩:=hur.ok rfl;obtain ⟨z,hz⟩:=nm_ (zag y);have HZw:=Lib.hid (show inW z from by rw [hz];exact ziR (by omega));rw [<- hz] at HE2 HE3 ⊢
     have HO5 := Lib.hid (HO.aside hg5 (fun q9 hq => by
       injection hq with hq
       subst hq
       refine ⟨by have := HGL.o; have := HGP.o; omega, fun t ht e => ?_⟩
       obtain ⟨i, hi⟩ := List.getElem?_of_mem ht
       have := (OwnE.lt (HO.rows i t hi) e).1
       have := HGL.o
       have := HGP.o
       omega))
     have hOn5:=HOn.grown hg5 rfl;obtain ⟨_,c9,_,f9⟩:=HO5.cell hu;have HO6:=Lib.hid (HO5.put hu z);have hgs:w5.grownBy (w5.setCell ⟨gP,2 * i9 + 1,none⟩ (.int .i64 z)) (some gP):=za2 (World.grownBy.refl _ _) _;have hun:(us.set i9 (u.1,(u.2.1,z)))[i9]?=some (u.1,(u.2.1,z)):=List.getElem?_set_self (by rw [HLu.o];exact hin);obtain ⟨_,c9',_,_⟩:=HO6.cell hun
     have HR6 := Lib.hid (show Rdr (w5.setCell ⟨gP, 2 * i9 + 1, none⟩ (.int .i64 z)) g v l k5 from
       hR5.same (hgs.block g hR5.lt (fun e => by injection e with e; have := HGL.o; have := HGP.o; omega)) (fun i hi =>
         hgs.block _ (hR5.rd.block hi) (fun e => by injection e with e; have := (HVB.o i hi).1; have := HGP.o; omega)))
     have HOn6 := Lib.hid (show Only (fun j => j = g) w (w5.setCell ⟨gP, 2 * i9 + 1, none⟩ (.int .i64 z)) from
       hOn5.far9 hgs (fun q hq => by injection hq with hq; rw [<- hq]; exact HGP.o))
     have HLu8:=Lib.hid (show (us.set i9 ((u.1,(u.2.1,z)):TriB)).length=n by rw [List.length_set];exact HLu.o)
     have HSa8 := Lib.hid (show ∀ (j : Nat) (t : TriB), ts[j]? = some t -> ∃ u', (us.set i9 ((u.1, (u.2.1, z)) : TriB))[j]? = some u' /\ u'.2.1 = t.2.1 from fun j t hj => by
       obtain ⟨u', h1, h2⟩ := HSa.o j t hj
       by_cases hji : j = i9
       · subst hji
         rw [hu] at h1
         injection h1 with h1
         subst h1
         exact ⟨_, hun, h2⟩
       · exact ⟨u', by rw [List.getElem?_set_ne (by omega)]; exact h1, h2⟩)
     by_cases hz0:z=0
     ·have hF:=HE2.o rfl hz0;have hq:(z != 0)=false:=(by rw [hz0];rfl);clear hur hr hRw hwl hww hwe hyl HR HOn HO HJ HE1 HE2 HE3 hg5 hR5 hOn5 hgs hz hz0;go_wp2_with fail;refine (zaB g v l k5 (w5.setCell ⟨gP,2 * i9 + 1,none⟩ (.int .i64 z)) HR6.o 2 (by decide)).mono ?_;rintro e w8 ⟨rfl,hg8,hE8⟩;have HF:=Lib.hid (zgP (R:=R) (HOn6.grown hg8 rfl) (by rw [hF];exact ⟨rfl,rfl⟩) (by decide) hE8);clear hF hg8 hE8;go_wp2;exact ⟨rfl,HF.o⟩
     have hq:(z != 0)=true:=by rw [bne_iff_ne];exact hz0
     have HJ8 := Lib.hid (show (ws ++ [z]).length = i9 + 1 /\ (∀ x ∈ ws ++ [z], inW x) /\ (∀ (j : Nat) (u' : TriB), (us.set i9 ((u.1, (u.2.1, z)) : TriB))[j]? = some u' -> j < i9 + 1 -> u'.2.2 = (ws ++ [z]).getD j 0) /\ R = zc7 (ltE cs) l n done (ws ++ [z]) (n - (i9 + 1)) k5 from by
       refine ⟨by rw [List.length_append, List.length_singleton, HWl.o], fun x hx => by
         rcases List.mem_append.1 hx with hx | hx
         · exact HWw.o x hx
         · rw [List.mem_singleton.1 hx]; exact HZw.o, fun j u' hj hlt9 => ?_, HE3.o rfl hz0⟩
       by_cases hji : j = i9
       · subst hji
         rw [hun] at hj
         injection hj with hj
         subst hj
         have := HWl.o
         simp [List.getD, <- this]
       · rw [List.getElem?_set_ne (by omega)] at hj
         rw [HWe.o j u' hj (by omega)]
         have := HWl.o
         unfold List.getD
         rw [List.getElem?_append_left (by omega)])
     clear hur hr hRw hwl hww hwe hyl HR HOn HO HJ HE1 HE2 HE3 hg5 hR5 hOn5 hgs hz hz0 HWl HWe HWw HZw HSa HLu;go_wp2_with fail;refine (zaD _ _ _).mono ?_;rintro e w8 ⟨rfl,rfl⟩;clear hun hu c9 c9' f9 HO5 hi7 hq;go_wp2;go_roundw
     case rel=>exact ⟨i9 + 1,k5,_,_,by omega,by go_num,HR6,HOn6,HO6,HLu8,HSa8,HJ8⟩
     simp [intOf];omega
    obtain ⟨rfl,hg5,hE5⟩:=hur.no hx5;have HF:=Lib.hid (zgP (R:=R) (HOn.grown hg5 rfl) (by rw [HE1.o hx5];exact ⟨rfl,rfl⟩) hx5 hE5);clear hur hr hRw hwl hww hwe hyl HR HOn HO HJ HE1 HE2 HE3 hg5 hE5;go_wp2;exact ⟨rfl,HF.o⟩
   obtain rfl:i9=n:=(by omega);have d5:decide ((i9:Int) < (i9:Int))=false:=decide_eq_false (by omega);obtain ⟨hwl,hww,hwe,hRw⟩:=HJ.o;rw [Nat.sub_self,zmB] at hRw;have hL:∀ (i:Nat) (u:TriB),us[i]?=some u->i < i9/\cesL u.2.1=(btRows i9 done).getD i []/\CES u.2.1/\u.2.2=ws.getD i 0:=fun i u hi=>by
    have hin:i < i9:=(by rw [<- HLu.o];exact (List.getElem?_eq_some_iff.1 hi).1);obtain ⟨u',h1,h2⟩:=HSa.o i (ts[i]'(by rw [HL.o];exact hin)) (List.getElem?_eq_getElem (by rw [HL.o];exact hin));rw [hi] at h1;injection h1 with h1
    subst h1;obtain ⟨r1,r2,r3⟩:=HRa.o i (ts[i]'(by rw [HL.o];exact hin)) (List.getElem?_eq_getElem (by rw [HL.o];exact hin));refine ⟨hin,?_,by rw [h2];exact r3,hwe i u hi hin⟩;rw [h2,r1];unfold btRows;simp [List.getD,hin]
   have hLl:=zcE i9 done;obtain ⟨L,hLd⟩:=nm_ (btRows i9 done);rw [<- hLd] at hL hLl hRw
   have HEnd := Lib.hid (show btAsc (ltE cs) L = true -> ∀ wz, Only (fun j => j = g) w wz -> Rdr wz g v l q -> OwnM wz w.heap.size gP us -> zzV w g v l R (.returned v7) wz from fun ha wz g1 g2 g3 => by
     rw [if_neg (by rw [ha]; simp)] at hRw
     refine ⟨g1, .inl ⟨by rw [hRw], v7, us.map (·.2), rfl, ?_, ?_, ?_, by rw [hRw]; exact g2⟩⟩
     · have := g3.new
       rw [HLu.o, <- HV7.o] at this
       exact this
     · intro p hp
       obtain ⟨u, hu, rfl⟩ := List.mem_map.1 hp
       obtain ⟨i, hi⟩ := List.getElem?_of_mem hu
       obtain ⟨a1, a2, a3, a4⟩ := hL i u hi
       refine ⟨a3, ?_⟩
       rw [a4]
       have hiw : i < ws.length := by omega
       have e : ws.getD i 0 = ws[i] := by simp [List.getD, hiw]
       rw [e]
       exact hww _ (List.getElem_mem hiw)
     · rw [hRw]
       show psL (us.map (·.2)) = L.zip ws
       unfold psL
       rw [List.map_map]
       apply List.ext_getElem
       · rw [List.length_map, List.length_zip, HLu.o, hLl, hwl, Nat.min_self]
       · intro i h1 h2
         have hi : i < us.length := by simpa using h1
         obtain ⟨a1, a2, a3, a4⟩ := hL i us[i] (by simp [hi])
         rw [List.getElem_map, List.getElem_zip]
         have e1 : L.getD i [] = L[i]'(by omega) := by
           have : i < L.length := by omega
           simp [List.getD, this]
         have e2 : ws.getD i 0 = ws[i]'(by omega) := by
           have : i < ws.length := by omega
           simp [List.getD, this]
         rw [<- e1, <- e2, <- a2, <- a4]; rfl)
   have HNo := Lib.hid (show btAsc (ltE cs) L = false -> R.2.1 = q /\ R.2.2 = 9 from fun ha => by
     rw [hRw, if_pos ha]; exact ⟨rfl, rfl⟩)
   have HLa:=Lib.hid hL;have HLl:=Lib.hid hLl;have HP0:=Lib.hid (show ∀ j,j + 1 < 1->ltE cs (L.getD j []) (L.getD (j + 1) [])=true from fun j hj=>absurd hj (by omega));clear hRw hwl hww hwe hL hLl hLd hin HJ HSa HRa HL HWd hi9;go_wp2
   go_loopw [13] (fun i wi => ∃ p : Nat, 1 <= p /\ i = .int .i64 p /\ Hid (Rdr wi g v l q) /\ Hid (Only (fun j => j = g) w wi) /\ Hid (OwnM wi w.heap.size gP us) /\
     Hid (∀ j, j + 1 < p -> ltE cs (L.getD j []) (L.getD (j + 1) []) = true)) (fun i _ => i9 - (intOf i).toNat)
   case atStart=>exact ⟨1,by omega,rfl,HR,HOn,HO,HP0⟩
   clear HR HOn HO HP0;obtain ⟨p,hp1,rfl,HR,HOn,HO,HJ⟩:=hrel;by_cases hpn:p < i9
   ·have d8:decide ((p:Int) < (i9:Int))=true:=decide_eq_true (by omega);obtain ⟨j,hj⟩:∃ j,p=j + 1:=⟨p - 1,by omega⟩;have hjw:IntKind.i64.wrap ((p:Int) - 1)=(j:Int):=(by rw [IntKind.wrap_i64];have:=HO.few;have:=HLu.o;omega);obtain ⟨ua,hua⟩:∃ u,us[j]?=some u:=⟨us[j]'(by rw [HLu.o];omega),List.getElem?_eq_getElem (by rw [HLu.o];omega)⟩;obtain ⟨ub,hub⟩:∃ u,us[p]?=some u:=⟨us[p]'(by rw [HLu.o];omega),List.getElem?_eq_getElem (by rw [HLu.o];omega)⟩;have hia:∀ u9,(Instr.indexAt 43 v7 (.int .i64 (j:Int))).run prog u9=.ok (.pointer (some ⟨gP,2 * j,none⟩)) u9:=by
     have:=HO.idx (i:=j) (by rw [HLu.o];omega);rw [HLu.o,<- HV7.o] at this;exact this
    have hib:∀ u9,(Instr.indexAt 43 v7 (.int .i64 (p:Int))).run prog u9=.ok (.pointer (some ⟨gP,2 * p,none⟩)) u9:=by
     have:=HO.idx (i:=p) (by rw [HLu.o];omega);rw [HLu.o,<- HV7.o] at this;exact this
    obtain ⟨ka,_,_,_⟩:=HO.cell hua;obtain ⟨kb,_,_,_⟩:=HO.cell hub;obtain ⟨_,la2,la3,_⟩:=HLa.o j ua hua;obtain ⟨_,lb2,lb3,_⟩:=HLa.o p ub hub;have hra:=(HO.rows j ua hua).rd (by have:=HO.wide ua (List.mem_of_getElem? hua);omega);have hrb:=(HO.rows p ub hub).rd (by have:=HO.wide ub (List.mem_of_getElem? hub);omega);obtain ⟨z,hz⟩:=nm_ (cmpR cs ua.2.1 ub.2.1);have CP:=Lib.hid (fun wz (hb:Below wr.heap.size wr wz)=>zf9 sv ua.1 ub.1 cs ua.2.1 ub.2.1 wz (HSv.o wz (HOn.below hb (Nat.le_refl _))) (hra.later hb (Nat.le_refl _)) (hrb.later hb (Nat.le_refl _)) hC la3 lb3 (HTb.o wz (HOn.below hb (Nat.le_refl _))));rw [<- hz] at CP;obtain ⟨ra,hra9⟩:=nm_ ua.1;obtain ⟨rb,hrb9⟩:=nm_ ub.1;rw [<- hra9] at ka CP;rw [<- hrb9] at kb CP;have hzL:ltE cs (L.getD j []) (L.getD (j + 1) [])=decide (z < 0):=by
     rw [<- la2,<- hj,<- lb2,zDS,hz]
    by_cases hz0:z < 0
    ·have hok:decide (z < 0)=true:=decide_eq_true hz0
     have HJ8 := Lib.hid (show ∀ j', j' + 1 < p + 1 -> ltE cs (L.getD j' []) (L.getD (j' + 1) []) = true from fun j' hj' => by
       by_cases hjj : j' = j
       · rw [hjj, hzL, hok]
       · exact HJ.o j' (by omega))
     clear hj hz la2 la3 lb2 lb3 hra hrb hra9 hrb9 hua hub hzL hz0 HJ;go_wp2_with fail
     go_region_with (first
       | (go_at_call 98
          refine (CP.o _ ?hcp).mono ?_
          case hcp => exact (Below.refl _ _).drew
          rintro e w7 ⟨rfl, hb7⟩)
       | (go_at_call 212
          try rw [hok]
          refine (zaD _ _ _).mono ?_
          rintro e w8 ⟨rfl, rfl⟩))
     all_goals (
       have HR8 := Lib.hid ((HR.drew).later hb7 (Nat.le_refl _))
       have HOn8 := Lib.hid ((HOn.drew).below hb7 (Nat.le_refl _))
       have HO8 := Lib.hid (HO.later (((Below.refl _ _).drew).trans hb7))
       clear hb7 HR HOn HO CP ka kb hia hib hjw hok
       go_wp2
       go_roundw
       case rel => exact ⟨p + 1, by omega, by go_num, HR8, HOn8, HO8, HJ8⟩
       case measure => simp [intOf]; omega)
    have hok:decide (z < 0)=false:=decide_eq_false hz0
    have HF9 := Lib.hid (HNo.o (by
      cases ha : btAsc (ltE cs) L with
      | false => rfl
      | true =>
        have h7 := (zeG _ L).1 ha j (by rw [HLl.o, <- hj]; exact hpn)
        rw [hzL, hok] at h7
        cases h7))
    clear hj hz la2 la3 lb2 lb3 hra hrb hra9 hrb9 hua hub hzL hz0 HJ;go_wp2_with fail
    go_region_with (first
      | (go_at_call 98
         refine (CP.o _ ?hcp).mono ?_
         case hcp => exact (Below.refl _ _).drew
         rintro e w7 ⟨rfl, hb7⟩)
      | (go_at_call 212
         try rw [hok]
         refine (zaB g v l q w7 ((HR.drew).later hb7 (Nat.le_refl _)) 9 (by decide)).mono ?_
         rintro e w8 ⟨rfl, hg8, hE8⟩
         have HF := Lib.hid (zgP (R := R) (((HOn.drew).below hb7 (Nat.le_refl _)).grown hg8 rfl) HF9.o (by decide) hE8)
         refine ztT (a := { tmps := #[], defers := [] }) (w := w8) ⟨rfl, HF.o⟩ ?_))
    all_goals trivial
   have d8:decide ((p:Int) < (i9:Int))=false:=decide_eq_false (by omega);have HF:=Lib.hid (HEnd.o ((zeG _ L).2 (fun j hj=>HJ.o j (by have:=HLl.o;omega))) wr HOn.o HR.o HO.o);clear HR HOn HO HJ;go_wp2;go_ret;exact HF.o
  obtain ⟨rfl,hg2,hE2⟩:=hu.no hx1;have HF:=Lib.hid (zgP (R:=R) (HO1.grown hg2 rfl) (HRe.o hx1) hx1 hE2);clear hu hg2 hE2 hr HRc HRe;go_wp2;exact ⟨rfl,HF.o⟩
 have hq:((E:Int) != 0)=true:=by rw [bne_iff_ne];omega
 have hRE:R.2.1=k0/\R.2.2=E:=by rw [hR9];unfold bat;rw [if_pos hE0];exact ⟨rfl,rfl⟩
 have HRd:=Lib.hid hR;have HRE:=Lib.hid hRE;have HE0:=Lib.hid hE0;clear hR9 hsv hR hg h0v hE hT hRE hE0;go_enter func166,ntmps166;go_wp2_with fail;refine SC.mono ?_;rintro e w1 ⟨rfl,hb⟩;have HO1:=Lib.hid (show Only (fun j=>j=g) w w1 from (Only.refl _ _).below hb (Nat.le_refl _));have HR1:=Lib.hid (HRd.later hb (Nat.le_refl _));clear hb SC HRd;go_wp2_with fail;refine (zaB g v l k0 w1 HR1.o E HE0.o).mono ?_;rintro e w2 ⟨rfl,hg2,hE2⟩;have HF:=Lib.hid (zgP (R:=R) (HO1.grown hg2 rfl) HRE.o HE0.o hE2);clear hg2 hE2;go_wp2;exact ⟨rfl,HF.o⟩
/- -/
theorem RdC.only9 {w w':World} {v:Value} {cs:List ColB} {S:Nat->Prop} {B:Nat} (h0:RdC w v cs) {w0:World} (hw:RdC w0 v cs) (hB:w0.heap.size<=B) (hO:Only S w w') (hq:∀ q,S q->B<=q):RdC w' v cs :=
 RdG.same h0 fun i hi=>hO.block _ (RdG.block h0 zcS hi) (fun h=>by have h1:=RdG.block hw zcS hi;have h2:=hq _ h;omega)
/- -/
def zzW (wR:World) (c:Nat) (kd:Int) (R:(Nat × List Bp) × Nat × Nat) (g k x:Nat) (a:World):Prop :=
 Only (fun j=>j=c∨wR.heap.size<=j) wR a/\k=R.2.1/\x=R.2.2/\(x=0->∃ tv ps,Ebox a c kd (R.1.1:Int) tv/\NewP a (wR.heap.size + 4) tv ps/\PSO ps/\psL ps=R.1.2)
theorem znG (args:Array Value) (u:World):(callFunc 164 args).run prog u=.ok (.enter 164 args) u:=zk4 func164 (by kernel_rfl) rfl args u
theorem Ebox.seq {w:World} {b:Nat} {kind s:Int} {pv:Value} (h:Ebox w b kind s pv) (n:Int):Ebox (w.setCell ⟨b,1,none⟩ (.int .i64 n)) b kind n pv:=by
 have:=block_setCell (k:=1) h (.int .i64 n);unfold Ebox;simpa using this
theorem Ebox.pairs {w:World} {b:Nat} {kind s:Int} {pv:Value} (h:Ebox w b kind s pv) (v:Value):Ebox (w.setCell ⟨b,2,none⟩ v) b kind s v:=by
 have:=block_setCell (k:=2) h v;unfold Ebox;simpa using this
theorem Ebox.free {w:World} {b:Nat} {kind s:Int} {pv:Value} (h:Ebox w b kind s pv) (i:Nat):w.frozen? ⟨b,i,none⟩=false:=frozen_of_row _ _ _ _ _ h
theorem Ebox.lt {w:World} {b:Nat} {kind s:Int} {pv:Value} (h:Ebox w b kind s pv):b < w.heap.size:=(Array.getElem?_eq_some_iff.1 h).1
theorem zyP (k:Int) (w:World) (hF:Frs w) (hk:¬ (k=1∨k=2)):Calls prog 163 #[.int .i64 k] w fun e w'=>∃ x,e=.returned (.tuple #[.int .i64 x,.bool false])/\w=w':=by
 refine (zhO k w hF).mono ?_;rintro e w' ⟨⟨x,he,_⟩,hw⟩;rw [decide_eq_false hk] at he;exact ⟨x,he,hw⟩
theorem zyO (k:Int) (w:World) (hF:Frs w) (hk:k=1∨k=2):Calls prog 163 #[.int .i64 k] w fun e w'=>e=.returned (.tuple #[.int .i64 (2 - k),.bool true])/\w=w':=by
 refine (zhO k w hF).mono ?_;rintro e w' ⟨⟨x,he,hx⟩,hw⟩;rw [decide_eq_true hk,hx hk] at he;exact ⟨he,hw⟩
theorem zrS (sv:Value) (cs:List ColB) (R:(Nat × List Bp) × Nat × Nat) (wR:World) (g c kb:Nat) (kd:Int) (v:Value) (l:Bs) (w:World) (hRR:R=entT cs l) (hR:Rdr w g v l 0) (hc:Ebox w c kd 0 (.slice none 0 0)) (hkb:w.heap[kb]?=some (.cells #[sv] 24 (0,0))) (hsv:RdC wR sv cs) (hC:CS cs) (hT:Tabs w) (hg:zcA<=g)
  (hcR:c < wR.heap.size) (hkR:kb < wR.heap.size) (hkc:kb≠c) (hcT:zcA<=c) (hgR:wR.heap.size<=g) (hsz:wR.heap.size + 4<=w.heap.size) (hb:Below wR.heap.size wR w) (hv:∀ i,i < l.length->(adr v i).block≠c) (hsc:∀ wz,Only (fun j=>j=c∨wR.heap.size<=j) wR wz->RdC wz sv cs) :
  Calls prog 164 #[.pointer (some ⟨g,0,none⟩),.pointer (some ⟨c,0,none⟩),.pointer (some ⟨kb,0,none⟩)] w fun e w2=>∃ k x,Kept wR.heap.size g w w2/\zzW wR c kd R g k x w2/\Went g v l k x e w2:=by
 have hcw:c < w.heap.size:=by omega
 have UI:=h_ (zbW g v l 0 w hR 281474976710656 (by decide));have hno:=znL (cs:=cs) (l:=l);have hok:=znK (cs:=cs) (l:=l);have hmost:=zc3 (l:=l) (k:=0) (most:=281474976710656) (Nat.zero_le _);rw [<- hRR] at hno hok;obtain ⟨R1,hR1⟩:=nm_ (rdU l 0 281474976710656);rw [<- hR1] at UI hno hok hmost;obtain ⟨n,hn⟩:=nm_ R1.1;obtain ⟨k1,hk1⟩:=nm_ R1.2.1;obtain ⟨x1,hx1⟩:=nm_ R1.2.2;rw [<- hn,<- hk1,<- hx1] at UI;rw [<- hn,<- hk1,<- hx1] at hok;rw [<- hk1,<- hx1] at hno;rw [<- hn,<- hx1] at hmost;have HNo:=h_ hno;have HOk:=h_ hok;have HMo:=h_ (fun h=>(hmost h).2.2);have HX1:=h_ (show ∀ h:x1=0,x1=0 from fun h=>h);obtain ⟨ao1,tl1,cap1,rfl⟩:=hsv.lit12;have HC:=h_ hc;have HKb:=h_ hkb;have HO0:=h_ (show Only (fun j=>j=c∨wR.heap.size<=j) wR w from ((Only.refl _ wR).below hb l_));have HSc:=h_ hsc;have HT:=h_ hT;clear hno hok hmost hn hk1 hx1 hR1 hRR hc hkb hsv hR hT hb hsc;go_enter func164,ntmps164;go_wp2_with fail;refine UI.mono ?_;rintro e w2 ⟨hG,⟨hx,rfl,hR2⟩ | ⟨hx,rfl,hE⟩⟩
 ·subst hx;have hO2:Only (fun j=>j=g) w w2:=(Only.refl _ w).grown hG rfl;have hC2:Ebox w2 c kd 0 (.slice none 0 0):=hO2.keep HC.o (by omega);obtain ⟨c0,c1,c2⟩:=hC2.cells;have c3:=hC2.free 1;have hn9:=HMo.o rfl;obtain ⟨q1,q2,q3⟩:=HOk.o rfl;have hgS:Only (fun j=>j=c) w2 (w2.setCell ⟨c,1,none⟩ (.int .i64 (n:Int))):=(Only.refl (fun j=>j=c) w2).setCell (p:=⟨c,1,none⟩) rfl _;have hR3:=hR2.setVar (p:=⟨c,1,none⟩) (by dsimp only;omega) hv (.int .i64 (n:Int));have hC3:=hC2.seq (n:Int);have hk3:=hgS.keep (hO2.keep HKb.o (by omega)) (by omega);have hO3:Only (fun j=>j=c∨wR.heap.size<=j) wR (w2.setCell ⟨c,1,none⟩ (.int .i64 (n:Int))):=(HO0.trans9 hO2 (fun j _ hj=>by omega)).trans9 hgS (fun j _ hj=>.inl hj);have hK3:Kept wR.heap.size g w (w2.setCell ⟨c,1,none⟩ (.int .i64 (n:Int))):=(hO2.kept (fun j hj=>.inr hj)).setCell hcR _;have hT3:Tabs (w2.setCell ⟨c,1,none⟩ (.int .i64 (n:Int))):=zfY HT.o fun j hj=>by
   have hjl:=Nat.lt_of_lt_of_le hj (zmT HT.o);rw [hgS.block j (by have:=hO2.size;omega) (by omega),hO2.block j hjl (by omega)]
  obtain ⟨w3,hw3⟩:=nm_ (w2.setCell ⟨c,1,none⟩ (.int .i64 (n:Int)));rw [<- hw3] at hR3 hC3 hk3 hO3 hK3 hT3;have p0:=cell_of_one hk3;rw [hw3] at p0;have hsz3:=hO3.size;have hsz4:=hK3.size;have CT:=h_ (zvP _ cs g v l k1 w3 hR3 hC hT3 hg (fun wz hO=>HSc.o wz (hO3.trans9 hO (fun j _ hj=>.inr (by omega)))));have HW3:=h_ hw3;have HC3:=h_ hC3;have HO3:=h_ hO3;have HK3:=h_ hK3;have HQ:=h_ (And.intro q1 (And.intro q2 q3));obtain ⟨B,hB⟩:=nm_ (batS cs l k1);rw [<- hB] at HQ;rw [show bat (ltE cs) (errS (colsL cs)) l (kindsL cs) k1=B from hB.symm] at CT;clear hO2 hC2 hgS hR3 hC3 hk3 hO3 hK3 hT3 q1 q2 q3 hw3 UI HNo HOk HMo hB hR2 hG;go_wp2_with fail;rw [<- HW3.o];refine CT.mono ?_;clear c0 c1 c2 c3 CT;rintro e w4 ⟨hO4,⟨hx,tv,ps,rfl,hown,hps,hrt,hR4⟩ | ⟨hx,rfl,hE⟩⟩
  ·obtain ⟨ao,tl,cap,htv⟩:=hown.rd.lit12;subst htv;have hC4:Ebox w4 c kd (n:Int) (.slice none 0 0):=hO4.keep HC3.o (by omega);obtain ⟨c0,c1,c2⟩:=hC4.cells;have c3:=hC4.free 2;have HO4:=h_ hO4;have HN:=h_ hown;have HRT:=h_ hrt;have HR4:=h_ hR4;have HX:=h_ hx;have HC4:=h_ hC4;have hs4:=hO4.size;clear hO4 hown hrt hR4 hx hC4 p0;go_wp2;go_end0;have hos:Only (fun j=>j=c) w4 (w4.setCell ⟨c,2,none⟩ (.slice ao tl cap)):=(Only.refl (fun j=>j=c) w4).setCell (p:=⟨c,2,none⟩) rfl _;refine ⟨B.2.1,0,?_,⟨?_,by rw [HQ.2.2],by rw [HQ.2.2];exact HX.symm,fun _=>⟨.slice ao tl cap,ps,by rw [HQ.1];exact HC4.pairs _,?_,hps,by rw [HQ.2.1];exact HRT.o⟩⟩,.inl ⟨rfl,rfl,?_⟩⟩
   ·exact (HK3.trans (HO4.kept (fun j hj=>.inr hj))).setCell hcR _
   ·exact (HO3.trans9 HO4.o (fun j _ hj=>.inr (by omega))).setCell (p:=⟨c,2,none⟩) (.inl rfl) _
   ·exact (HN.only hos (fun q hq=>by omega)).lower (by omega)
   exact HR4.setVar (p:=⟨c,2,none⟩) (by dsimp only;omega) hv _
  have HO4:=h_ hO4;have HE:=h_ hE;have HX:=h_ hx;clear hO4 hE hx p0;go_wp2;refine ⟨rfl,B.2.1,B.2.2,HK3.trans (HO4.kept (fun j hj=>.inr hj)),⟨HO3.trans9 HO4.o (fun j _ hj=>.inr (by omega)),by rw [HQ.2.2],by rw [HQ.2.2],fun h=>absurd h HX.o⟩,.inr ⟨HX.o,rfl,HE.o⟩⟩
 have hO2:Only (fun j=>j=g) w w2:=(Only.refl _ w).grown hG rfl;obtain ⟨q1,q2⟩:=HNo.o hx;have HE:=h_ hE;have HX:=h_ hx;have HQ1:=h_ q1;have HQ2:=h_ q2;have HO2:=h_ hO2;clear hG hE hx q1 q2 hO2 UI HOk HMo;go_wp2;refine ⟨rfl,k1,x1,HO2.kept (fun j hj=>.inr hj),⟨HO0.trans9 HO2.o (fun j _ hj=>by omega),HQ1.symm,HQ2.symm,fun h=>absurd h HX.o⟩,.inr ⟨HX.o,rfl,HE.o⟩⟩
def RdEO (w:World) (cs:List ColB) (kind:Int) (l:Bs) (e:Ending) (w':World):Prop :=
 Below w.heap.size w w'/\∃ ao n cap ps,e=.returned (.tuple #[.agg #[.int .i64 (entRV cs kind l).1,.int .i64 (entRV cs kind l).2.1,.slice ao n cap],.int .i64 (entRE cs kind l:Nat)])/\NewP w' w.heap.size (.slice ao n cap) ps/\PSO ps/\psL ps=(entRV cs kind l).2.2
theorem RdEO.no {w w':World} {cs:List ColB} {kind:Int} {l:Bs} {k:Nat} (h:entRE cs kind l=k) (hk:k≠0) (hb:Below w.heap.size w w') :
  RdEO w cs kind l (.returned (.tuple #[.agg #[.int .i64 0,.int .i64 0,.slice none 0 0],.int .i64 (k:Int)])) w':=by
 refine ⟨hb,none,0,0,[],?_,NewP.nil _ _,fun p hp=>absurd hp (by simp),?_⟩
 ·unfold entRV;rw [h,if_neg hk]
 unfold entRV;rw [h,if_neg hk];rfl
theorem Ebox.reset {w:World} {b:Nat} {k s:Int} {pv:Value} (h:Ebox w b k s pv) (k' s':Int) (v:Value):Ebox (((w.setCell ⟨b,0,none⟩ (.int .i64 k')).setCell ⟨b,1,none⟩ (.int .i64 s')).setCell ⟨b,2,none⟩ v) b k' s' v:=by
 have:=block_setCell (k:=2) (block_setCell (k:=1) (block_setCell (k:=0) h (.int .i64 k')) (.int .i64 s')) v;unfold Ebox;simpa using this
theorem zvH (sv v:Value) (cs:List ColB) (kind:Int) (l:Bs) (w:World) (hsv:RdC w sv cs) (h:Rd w v l) (hC:CS cs) (hk:inW kind) (hT:Tabs w) (hF:Frs w) :
  Calls prog 119 #[sv,.int .i64 kind,v] w (RdEO w cs kind l):=by
 have hmf:∀ (fn:Fn) (first cap:Array Value) (w:World),(Instr.makeFunc fn first cap).run prog w=.ok (.func fn first cap) w:=fun _ _ _ _=>rfl;obtain ⟨N0,N1,N2,N4⟩:=new2 w (.cells #[sv] 24) (.cells #[.int .i64 0,.int .i64 0,.slice none 0 0] 92);obtain ⟨w0,hw0⟩:=nm_ ((w.alloc (.cells #[sv] 24)).alloc (.cells #[.int .i64 0,.int .i64 0,.slice none 0 0] 92));rw [<- hw0] at N0 N1 N2 N4;have htl:=zmT hT;have HB0:=h_ N4;have HH:=h_ h;have HT:=h_ hT;have HF:=h_ hF;have HSV:=h_ hsv;have SC:=h_ (zaW sv cs w0 (hsv.later N4 l_) hC (hT.later N4));have hE:entRE cs kind l=if errS (colsL cs)≠0 then errS (colsL cs) else if kind≠1/\kind≠2 then 10 else told l (entT cs l).2.1 (entT cs l).2.2:=rfl
 have hV:entRE cs kind l=0->entRV cs kind l=(2 - kind,((entT cs l).1.1:Int),(entT cs l).1.2):=fun h=>by unfold entRV;rw [if_pos h]
 obtain ⟨E,hEe⟩:=nm_ (errS (colsL cs));rw [<- hEe] at SC hE;obtain ⟨cb,hcb⟩:=nm_ w.heap.size;rw [<- hcb] at N0 N1 N2 htl;have HCB:=h_ hcb;have HW0:=h_ hw0;have HR0:=h_ (show Ebox w0 (cb + 1) 0 0 (.slice none 0 0) from N2);have HS0:=h_ N1;have HN0:=h_ N0;obtain ⟨ao1,tl1,cap1,rfl⟩:=hsv.lit12;have p0:=cell_of_one N1;clear hw0 N1 N2 N4 h hT hF hsv hcb hEe N0;by_cases hE0:E=0
 ·subst hE0;rw [if_neg (by simp)] at hE;by_cases hkd:kind≠1/\kind≠2
  ·rw [if_pos hkd] at hE;have HE:=h_ hE;have KO:=h_ (fun wz hF=>zyP kind wz hF (by omega));clear hE hV hkd hk;go_enter func119,ntmps119;go_wp2_with fail;rw [<- HW0.o,<- HCB.o];refine SC.mono ?_;rintro e w1 ⟨rfl,hb⟩;have HB1:=bT HB0 hb;have HR1:=h_ (HR0.later hb);obtain ⟨c0,c1,c2⟩:=HR1.cells;have f0:=HR1.free 0;have f1:=HR1.free 1;have f2:=HR1.free 2;clear hb SC HR0 p0;go_wp2_with fail;refine (KO.o w1 (HF.later HB1.o)).mono ?_;rintro e w2 ⟨x,rfl,rfl⟩;clear KO;go_wp2;obtain ⟨w9,hw9⟩:=nm_ (((w1.setCell ⟨cb + 1,0,none⟩ (.int .i64 0)).setCell ⟨cb + 1,1,none⟩ (.int .i64 0)).setCell ⟨cb + 1,2,none⟩ (.slice none 0 0));rw [<- hw9];obtain ⟨e0,e1,e2⟩:=(show Ebox w9 (cb + 1) 0 0 (.slice none 0 0) from by rw [hw9];exact HR1.reset 0 0 _).cells;have HB9:Below w.heap.size w w9:=(by rw [hw9];exact ((HB1.setCell (p:=⟨cb + 1,0,none⟩) (by rw [<- HCB.o];exact Nat.le_succ _) _).setCell (p:=⟨cb + 1,1,none⟩) (by rw [<- HCB.o];exact Nat.le_succ _) _).setCell (p:=⟨cb + 1,2,none⟩) (by rw [<- HCB.o];exact Nat.le_succ _) _);refine bodyPost_ret (by simp [results,results119,go_sem,e0,e1,e2];try rfl) rfl ?_;exact RdEO.no HE.o (by decide) HB9
  rw [if_neg hkd] at hE;have hk2:kind=1∨kind=2:=by omega
  have KO:=h_ (fun wz hF=>zyO kind wz hF hk2);obtain ⟨kd,hkd2⟩:=nm_ (2 - kind);obtain ⟨R,hRR⟩:=nm_ (entT cs l);rw [<- hkd2] at KO hV;rw [<- hRR] at hE hV;have HE:=h_ hE;have HV:=h_ hV;have HC:=h_ hC;clear hE hV hkd hk hk2 hkd2 hC;go_enter func119,ntmps119;go_wp2_with fail;rw [<- HW0.o,<- HCB.o];refine SC.mono ?_;rintro e w1 ⟨rfl,hb⟩;have HB1:=bT HB0 hb;have HR1:=h_ (HR0.later hb);have HS1:=h_ ((hb.block cb (Array.getElem?_eq_some_iff.1 HS0.o).1).trans HS0.o);have HN1:=h_ (show cb + 2<=w1.heap.size from by have:=hb.size;have:=HN0.o;omega);clear hb SC HR0 p0;go_wp2_with fail;refine (KO.o w1 (HF.later HB1.o)).mono ?_;rintro e w9 ⟨rfl,rfl⟩;obtain ⟨M1,M2⟩:=za7 w1 (.cells #[.int .i64 kd,.int .i64 0,.slice none 0 0] 92);obtain ⟨w2,hw2⟩:=nm_ (w1.alloc (.cells #[.int .i64 kd,.int .i64 0,.slice none 0 0] 92));have M0:w2.heap.size=w1.heap.size + 1:=by rw [hw2];simp
  rw [<- hw2] at M1 M2;obtain ⟨c,hc⟩:=nm_ w1.heap.size;rw [<- hc] at M0 M1;have hn1:=HN1.o;rw [<- hc] at hn1;have hws:w.heap.size<=cb:=by rw [HCB.o];exact l_
  have HE2:Ebox w2 c kd 0 (.slice none 0 0):=M1;have HB2:=bT HB1 M2;have HR2:=h_ (HR1.later M2);have hS2:=(M2.block cb (Array.getElem?_eq_some_iff.1 HS1.o).1).trans HS1.o;have hrd2:=HH.later HB2.o l_;have hsv2:=HSV.later HB2.o l_;have hT2:=HT.later HB2.o;have hvb:=fun i (hi:i < l.length)=>HH.block hi
  have hrun:=zjC 164 znG #[.pointer (some ⟨c,0,none⟩),.pointer (some ⟨cb,0,none⟩)] v l w2 hrd2 (zzW w2 c kd R) (fun g k x a b hp hs hO=>by
   obtain ⟨h1,h2,h3,h4⟩:=hp
   refine ⟨h1.trans9 hO (fun j _ hj=>.inr (by omega)),h2,h3,fun hx=>?_⟩
   obtain ⟨tv,ps,q1,q2,q3,q4⟩:=h4 hx
   exact ⟨tv,ps,hO.keep q1 (by omega),q2.only hO (fun q hq=>by omega),q3,q4⟩) (fun g w3 h1 h2 h3 hb hR=>by
   have:=zrS _ cs R w2 g c cb kd v l w3 hRR hR (HE2.later hb) ((hb.block cb (by omega)).trans hS2) hsv2 HC.o (hT2.later hb) (by omega) (by omega) (by omega) (by omega) (by omega) h1 h2 hb (fun i hi=>by have:=hvb i hi;omega) (fun wz hO=>hsv2.only9 HSV.o (B:=c) (by omega) hO (fun q hq=>by omega))
   exact this)
  have HRUN:=h_ hrun;have HW2:=h_ hw2;have HCc:=h_ hc;have HM0:=h_ M0;have HH1:=h_ (And.intro hn1 hws);clear hrun hw2 hc M0 M1 M2 hn1 hws HE2 hS2 hrd2 hsv2 hT2 hvb KO HR1 HS1 HB1 HN1;go_wp2_with fail;rw [<- HW2.o,<- HCc.o];refine HRUN.mono ?_;rintro e w3 ⟨g,k,x,hk,hg,⟨hO,h2,h3,hp⟩,hsh,rfl⟩;have HB3:=h_ (show Below w.heap.size w w3 from HB2.trans (hO.toBelow (fun j hj=>by have:=HH1.o;have:=HM0.o;omega) (by have:=HH1.o;have:=HM0.o;omega)));have HR3:=h_ (show Ebox w3 (cb + 1) 0 0 (.slice none 0 0) from hO.keep HR2.o (by have:=HH1.o;have:=HM0.o;omega));have HE3:=h_ (show entRE cs kind l=told l k x from by rw [HE.o,h2,h3]);obtain ⟨c0,c1,c2⟩:=HR3.cells;have f0:=HR3.free 0;have f1:=HR3.free 1;have f2:=HR3.free 2;obtain ⟨y,hy⟩:=nm_ (told l k x);rw [<- hy] at HE3 ⊢;by_cases hy0:y=0
  ·subst hy0;have hx:x=0:=by
    apply Decidable.of_not_not;intro h9;unfold told at hy;rw [if_neg h9] at hy;exact h9 hy.symm
   subst hx;obtain ⟨tv,ps,q1,q2,q3,q4⟩:=hp rfl;obtain ⟨ao,tl,cap,htv⟩:=q2.rd.lit12;subst htv;obtain ⟨b0,b1,b2⟩:=q1.cells;have HN:=h_ q2;have HPs:=h_ q3;have HQ:=h_ q4;obtain ⟨sq,hsq⟩:=nm_ ((R.1.1:Int):Int);rw [<- hsq] at b1;have HSq:=h_ hsq;have hlt:=HR3.lt;clear hO h2 h3 hp hsh q1 q2 q3 q4 hy hsq hRR HRUN HE;go_wp2;obtain ⟨w9,hw9⟩:=nm_ (((w3.setCell ⟨cb + 1,0,none⟩ (.int .i64 kd)).setCell ⟨cb + 1,1,none⟩ (.int .i64 sq)).setCell ⟨cb + 1,2,none⟩ (.slice ao tl cap));rw [<- hw9];obtain ⟨e0,e1,e2⟩:=(show Ebox w9 (cb + 1) kd sq (.slice ao tl cap) from by rw [hw9];exact HR3.reset kd sq _).cells;have HO9:Only (fun j=>j=cb + 1) w3 w9:=(by rw [hw9];exact (((Only.refl (fun j=>j=cb + 1) w3).setCell (p:=⟨cb + 1,0,none⟩) rfl _).setCell (p:=⟨cb + 1,1,none⟩) rfl _).setCell (p:=⟨cb + 1,2,none⟩) rfl _);have HB9:Below w.heap.size w w9:=HB3.trans (HO9.toBelow (fun j hj=>by have:=HH1.o;omega) HB3.size);refine bodyPost_ret (by simp [results,results119,go_sem,e0,e1,e2];try rfl) rfl ?_;refine ⟨HB9,ao,tl,cap,ps,?_,(HN.only HO9 (fun q hq=>by have:=HH1.o;have:=HM0.o;omega)).lower (by have:=HH1.o;have:=HM0.o;omega),HPs.o,?_⟩
   ·rw [HV.o HE3.o,HE3.o,HSq.o];rfl
   rw [HV.o HE3.o,HQ.o]
  have q:((y:Int) != 0)=true:=by rw [bne_iff_ne];omega
  have HY:=h_ hy0;clear hO h2 h3 hp hsh hy hRR HRUN HE hy0;go_wp2;obtain ⟨w9,hw9⟩:=nm_ (((w3.setCell ⟨cb + 1,0,none⟩ (.int .i64 0)).setCell ⟨cb + 1,1,none⟩ (.int .i64 0)).setCell ⟨cb + 1,2,none⟩ (.slice none 0 0));rw [<- hw9];obtain ⟨e0,e1,e2⟩:=(show Ebox w9 (cb + 1) 0 0 (.slice none 0 0) from by rw [hw9];exact HR3.reset 0 0 _).cells;have HO9:Only (fun j=>j=cb + 1) w3 w9:=by rw [hw9];exact (((Only.refl (fun j=>j=cb + 1) w3).setCell (p:=⟨cb + 1,0,none⟩) rfl _).setCell (p:=⟨cb + 1,1,none⟩) rfl _).setCell (p:=⟨cb + 1,2,none⟩) rfl _
  have HB9:Below w.heap.size w w9:=HB3.trans (HO9.toBelow (fun j hj=>by have:=HH1.o;omega) HB3.size);refine bodyPost_ret (by simp [results,results119,go_sem,e0,e1,e2];try rfl) rfl ?_;exact RdEO.no HE3.o HY.o HB9
 rw [if_pos hE0] at hE;have HE:=h_ hE;have HE0:=h_ hE0;have q:((E:Int) != 0)=true:=by rw [bne_iff_ne];omega
 clear hE hV hk hE0;go_enter func119,ntmps119;go_wp2_with fail;rw [<- HW0.o,<- HCB.o];refine SC.mono ?_;rintro e w1 ⟨rfl,hb⟩;have HB1:=bT HB0 hb;have HR1:=h_ (HR0.later hb);obtain ⟨c0,c1,c2⟩:=HR1.cells;have f0:=HR1.free 0;have f1:=HR1.free 1;have f2:=HR1.free 2;clear hb SC HR0;go_wp2;obtain ⟨w9,hw9⟩:=nm_ (((w1.setCell ⟨cb + 1,0,none⟩ (.int .i64 0)).setCell ⟨cb + 1,1,none⟩ (.int .i64 0)).setCell ⟨cb + 1,2,none⟩ (.slice none 0 0));rw [<- hw9];obtain ⟨e0,e1,e2⟩:=(show Ebox w9 (cb + 1) 0 0 (.slice none 0 0) from by rw [hw9];exact HR1.reset 0 0 _).cells;have HB9:Below w.heap.size w w9:=by rw [hw9];exact ((HB1.setCell (p:=⟨cb + 1,0,none⟩) (by rw [<- HCB.o];exact Nat.le_succ _) _).setCell (p:=⟨cb + 1,1,none⟩) (by rw [<- HCB.o];exact Nat.le_succ _) _).setCell (p:=⟨cb + 1,2,none⟩) (by rw [<- HCB.o];exact Nat.le_succ _) _
 refine bodyPost_ret (by simp [results,results119,go_sem,e0,e1,e2];try rfl) rfl ?_;exact RdEO.no HE.o HE0.o HB9
