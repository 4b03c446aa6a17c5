/- -/
import Derived.Test.YtlapgdocpndfiaaGreatDoorUEntN
import Derived.Test.YtlapgdocpndfiaaGreatDoorUTrcS
import Derived.Test.YtlapgdocpndfiaaGreatDoorUBatW
set_option maxHeartbeats 16000000
set_option linter.unusedVariables false
set_option linter.unusedSimpArgs false
set_option maxRecDepth 1000000
namespace Go.Proofs.YtlapgdocpndfiaaGreatDoor
open _root_.Go.Proofs.Tryz
open Go.RowKit Go.Shelf
theorem zlC (v:Value) (cs:List ColB) (w:World) (hR:RdC w v cs) (hC:CS cs) (hT:Tabs w) :
  Calls prog 81 #[v] w (RetW w (hdW (colsL cs))):=by
 have SC:=fun wz (hz:Below w.heap.size w wz)=>zoO v cs wz (hR.later hz l_) hC (hT.later hz);have hH:hdW (colsL cs)=if errS (colsL cs)≠0 then ([],errS (colsL cs)) else (hdB (colsL cs),0):=rfl
 by_cases h0:errS (colsL cs)=0
 ·rw [if_neg (fun h=>h h0)] at hH;have hsm:=zbU h0;have hwf:wrF 0 (wrS (colsL cs))=(frB 0 (wrS (colsL cs)),0):=by unfold wrF;rw [if_neg (by omega),if_neg (by omega)];rfl
  have hfs:=zjT 0 hsm;have hfp:=zb8 0 (wrS (colsL cs));have hH:hdW (colsL cs)=([68,75,76,49] ++ frB 0 (wrS (colsL cs)),0):=hH;obtain ⟨L,hL⟩:=nm_ (wrS (colsL cs))
  have SW:=h_ (fun wz (hz:Below w.heap.size w wz)=>(SC wz hz).mono (fun e w' h=>show ∃ u,e=.returned (.tuple #[u,.int .i64 ((0:Nat):Int)])/\Below wz.heap.size wz w'/\Own w' wz.heap.size u L from by
   obtain ⟨u,he,hb,hq⟩:=h
   rw [h0] at he hq
   rcases hq with ⟨h9,_⟩ | ⟨_,ho⟩
   ·exact absurd rfl h9
   ·exact ⟨u,he,hb,by rw [hL];exact ho⟩))
  rw [<- hL] at hsm hwf hfs hfp hH;rw [hH];have FW:=h_ (fun u wz (h:Rd wz u L)=>by have:=zfF 0 u L wz h;rw [hwf] at this;exact this);have HSM:=h_ (And.intro hsm (And.intro hfs hfp));obtain ⟨F,hF⟩:=nm_ (frB 0 L);rw [<- hF] at FW HSM ⊢;clear hsm hwf hfs hfp hH hL hF hR hC hT SC h0;go_enter func81,ntmps81;go_wp2_with fail;refine (SW.o w (Below.refl _ _)).mono ?_;rintro e w2 ⟨bv,rfl,hb,hO⟩;have HB2:=h_ hb;have HR2:=h_ (hO.rd (by have:=HSM.o;omega));clear hb hO SW;go_wp2_with fail;refine (FW.o bv w2 HR2.o).mono ?_;rintro e w3 ⟨fv,rfl,hO,hb⟩;replace hO:Own w3 w2.heap.size fv F:=hO;have HB3:=bT HB2 hb;have HO3:=h_ hO;have hcv:=Lib.run_convert_bytes_const (P:=prog) w3 22 5 #[.int .u8 68,.int .u8 75,.int .u8 76,.int .u8 49] 4 4 underlying22 underlying5;have h4:=zCL w3 [68,75,76,49] (by decide) (4,5);have hb0:Below w.heap.size w (w3.alloc (.cells #[.int .u8 68,.int .u8 75,.int .u8 76,.int .u8 49] 5 (4,5))):=HB3.alloc HB3.size _;have hr0:=(hO.rd (by have:=HSM.o;omega)).alloc (.cells #[.int .u8 68,.int .u8 75,.int .u8 76,.int .u8 49] 5 (4,5));have hs0:w.heap.size<=w3.heap.size:=HB3.size;clear hb hO FW HB2 HR2;go_wp2_with (refine zl0 w3.heap.size 4 [68,75,76,49] F ?hs h4 fv ?hx hr0 ?hp ?hf ?hn w.heap.size w hb0 ?hz ?_)
  case hs=>rfl
  case hx=>rfl
  case hp=>have:=HSM.o;omega
  case hf=>have:=HSM.o;simp;omega
  case hn=>have:=HSM.o;simp;omega
  case hz=>simp;omega
  intro v4 w4 ho4 hb4;have HO4:=h_ (ho4.base (base':=w.heap.size) (by simp;omega));have HB4:=h_ hb4;clear hb0 hr0 h4 hcv ho4 hb4;go_wp2;go_ret2;exact ⟨_,rfl,HO4.o,HB4.o⟩
 rw [if_pos h0] at hH;obtain ⟨E,hE⟩:=nm_ (errS (colsL cs))
 have SW:=h_ (fun wz (hz:Below w.heap.size w wz)=>(SC wz hz).mono (fun e w' h=>show ∃ u,e=.returned (.tuple #[u,.int .i64 (E:Int)])/\Below wz.heap.size wz w' from by
  obtain ⟨u,he,hb,hq⟩:=h
  exact ⟨u,by rw [hE];exact he,hb⟩))
 rw [<- hE] at hH h0;have q:((E:Int) != 0)=true:=by rw [bne_iff_ne];omega
 have HH:=h_ hH;clear hH hE hR hC hT SC;go_enter func81,ntmps81;go_wp2_with fail;refine (SW.o w (Below.refl _ _)).mono ?_;rintro e w1 ⟨u,rfl,hb⟩;have HB1:=h_ hb;clear hb SW;go_wp2;go_ret2;rw [HH.o];exact ⟨_,rfl,zaT _ _,HB1.o⟩
theorem Own.lit13 {w:World} {base:Nat} {v:Value} {l:Bs} (h:Own w base v l):∃ ao n cap,v=.slice ao n cap:=by
 rcases h.2 with ⟨rfl,_⟩ | ⟨g,cap,cur,rfl,_⟩
 ·exact ⟨_,_,_,rfl⟩
 exact ⟨_,_,_,rfl⟩
def Abox (w:World) (g:Nat) (sv:Value) (s:Int) (vv:Value):Prop:=w.heap[g]?=some (.cells #[sv,.int .i64 s,vv] 155 (0,0))
section
variable {w w':World} {g b:Nat} {sv vv ov:Value} {s:Int}
theorem Abox.cells (h:Abox w g sv s vv):w.cell? ⟨g,0,none⟩=some sv/\w.cell? ⟨g,1,none⟩=some (.int .i64 s)/\w.cell? ⟨g,2,none⟩=some vv :=
 ⟨cell_of_row _ _ 0 _ _ _ h,cell_of_row _ _ 1 _ _ _ h,cell_of_row _ _ 2 _ _ _ h⟩
theorem Abox.free (h:Abox w g sv s vv) (i:Nat):w.frozen? ⟨g,i,none⟩=false:=frozen_of_row _ _ _ _ _ h
theorem Abox.lt (h:Abox w g sv s vv):g < w.heap.size:=(Array.getElem?_eq_some_iff.1 h).1
theorem Abox.later (h:Abox w g sv s vv) (hb:Below w.heap.size w w'):Abox w' g sv s vv:=(hb.block g h.lt).trans h
theorem Abox.set (h:Abox w g sv s vv) (n:Int) (u:Value):Abox ((w.setCell ⟨g,1,none⟩ (.int .i64 n)).setCell ⟨g,2,none⟩ u) g sv n u:=by
 have:=block_setCell (k:=2) (block_setCell (k:=1) h (.int .i64 n)) u;unfold Abox;simpa using this
end
def TkO (w:World) (g:Nat) (sv vv:Value) (cs:List ColB) (s:Int) (v:List PairB) (x:EntB) (e:Ending) (w':World):Prop :=
 e=.returned (.int .i64 (apE cs s v x:Nat))/\Only (fun j=>j=g) w w' /\
  ((apE cs s v x≠0/\Abox w' g sv s vv)∨(apE cs s v x=0/\∃ vn,Abox w' g sv (apN cs s v x) vn/\NewP w' w.heap.size vn (apV cs s v x)))
theorem ze3 {S:Nat->Prop} {w w':World} {B:Nat} (h:Below B w w') (hB:w.heap.size<=B):Only S w w':=(Only.refl S w).below h hB
theorem zlB (g:Nat) (sv vv ev:Value) (cs:List ColB) (s:Int) (v:List PairB) (x:EntB) (w:World) (hA:Abox w g sv s vv) (hR:RdC w sv cs) (hV:RdP w vv v) (hE:RdN w ev x) (hC:CS cs) (hVO:PSO v) (hX:EnO x) (hq:inW s) (hT:Tabs w) :
  Calls prog 89 #[.pointer (some ⟨g,0,none⟩),ev] w (TkO w g sv vv cs s v x):=by
 obtain ⟨kd,s2,ps⟩:=x;obtain ⟨pv,rfl,hP⟩:=hE;dsimp only at hP;obtain ⟨ap,np,cp,rfl⟩:=hP.lit12;obtain ⟨av,nv,cv,rfl⟩:=hV.lit12;obtain ⟨ac,nc,cc,rfl⟩:=hR.lit12;obtain ⟨N1,N2⟩:=za7 w (.cells #[.int .i64 kd,.int .i64 s2,.slice ap np cp] 92);obtain ⟨w0,hw0⟩:=nm_ (w.alloc (.cells #[.int .i64 kd,.int .i64 s2,.slice ap np cp] 92));rw [<- hw0] at N1 N2;obtain ⟨eb,hg⟩:=nm_ w.heap.size;rw [<- hg] at N1;have HE0:=h_ (show Ebox w0 eb kd s2 (.slice ap np cp) from N1);have HA0:=h_ (hA.later N2);have HB0:=h_ N2;have HW0:=h_ hw0;have HG:=h_ hg;have hgl:=hA.lt
 have AP:=h_ (fun wz (hz:Below w0.heap.size w0 wz)=>by
  have hz':Below w.heap.size w wz:=N2.trans (hz.mono N2.size)
  exact (zhP (.slice ac nc cc) (.slice av nv cv) (.agg #[.int .i64 kd,.int .i64 s2,.slice ap np cp]) cs s v (kd,s2,ps) wz (hR.later hz' l_) (hV.later hz' l_) ⟨_,rfl,hP.later hz' l_⟩ hC hVO hX hq (hT.later hz')).mono
   (fun e w' h=>show (∃ rv,e=.returned (.tuple #[.int .i64 (apN cs s v (kd,s2,ps)),rv,.int .i64 (apE cs s v (kd,s2,ps):Nat)])/\NewP w' w.heap.size rv (apV cs s v (kd,s2,ps)))/\Below w0.heap.size w0 w' from by
    obtain ⟨rv,he,hn,hb⟩:=h
    exact ⟨⟨rv,he,hn.lower hz'.size⟩,hz.trans (hb.mono hz.size)⟩))
 obtain ⟨E,hEd⟩:=nm_ (apE cs s v (kd,s2,ps));obtain ⟨V,hVd⟩:=nm_ (apV cs s v (kd,s2,ps));obtain ⟨S,hSd⟩:=nm_ (apN cs s v (kd,s2,ps));unfold TkO;rw [<- hEd,<- hVd,<- hSd];rw [<- hEd,<- hVd,<- hSd] at AP;have Q:=h_ (fun wz (hz:Below w0.heap.size w0 wz)=>And.intro hz (And.intro (HA0.later hz).cells.1 (And.intro (HA0.later hz).cells.2.1 (And.intro (HA0.later hz).cells.2.2 (And.intro (HE0.later hz).cells.1 (And.intro (HE0.later hz).cells.2.1 (HE0.later hz).cells.2.2))))));clear N1 N2 hw0 hg hEd hVd hSd hR hV hP hC hVO hX hq hT hA;have m0:Below w0.heap.size w0 w0.drew:=(Below.refl _ _).drew;by_cases hE0:E=0
 ·subst hE0;go_enter func89,ntmps89;go_wp2_with fail;rw [<- HW0.o,<- HG.o];go_region_held3 (fun z=>Below w0.heap.size w0 z/\z.cell? ⟨g,0,none⟩=some (.slice ac nc cc)/\z.cell? ⟨g,1,none⟩=some (.int .i64 s)/\z.cell? ⟨g,2,none⟩=some (.slice av nv cv)/\z.cell? ⟨eb,0,none⟩=some (.int .i64 kd)/\z.cell? ⟨eb,1,none⟩=some (.int .i64 s2)/\z.cell? ⟨eb,2,none⟩=some (.slice ap np cp)) (first | (exact Q.o _ m0) | go_keep)
   ((first
    | (go_at_call 100;refine (AP.o _ (by assumption)).mono ?_;rintro e w6 ⟨⟨rv,rfl,hrv⟩,m3⟩;clear m0;have m0:=m3;clear m3)))
  obtain ⟨ar,nr,cr,rfl⟩:=hrv.rd.lit12;have hA6:=HA0.later m0;obtain ⟨c0,c1,c2⟩:=hA6.cells;have f1:=hA6.free 1;have f2:=hA6.free 2;have HA6:=h_ hA6;have HB6:=bT HB0 m0;have HR6:=h_ hrv;clear hA6 m0 hrv AP Q HE0 HA0;go_wp2;go_ret;have hO:Only (fun j=>j=g) w ((w6.setCell ⟨g,1,none⟩ (.int .i64 S)).setCell ⟨g,2,none⟩ (.slice ar nr cr)):=((ze3 (S:=fun j=>j=g) HB6.o l_).setCell (p:=⟨g,1,none⟩) rfl _).setCell (p:=⟨g,2,none⟩) rfl _;have hO6:Only (fun j=>j=g) w6 ((w6.setCell ⟨g,1,none⟩ (.int .i64 S)).setCell ⟨g,2,none⟩ (.slice ar nr cr)):=((Only.refl (fun j=>j=g) _).setCell (p:=⟨g,1,none⟩) rfl _).setCell (p:=⟨g,2,none⟩) rfl _;exact ⟨rfl,hO,.inr ⟨by trivial,_,HA6.set S _,HR6.only hO6 (fun q hq hh=>by omega)⟩⟩
 have q:((E:Int) != 0)=true:=by rw [bne_iff_ne];omega
 have HN:=h_ hE0;clear hE0;go_enter func89,ntmps89;go_wp2_with fail;rw [<- HW0.o,<- HG.o];go_region_held3 (fun z=>Below w0.heap.size w0 z/\z.cell? ⟨g,0,none⟩=some (.slice ac nc cc)/\z.cell? ⟨g,1,none⟩=some (.int .i64 s)/\z.cell? ⟨g,2,none⟩=some (.slice av nv cv)/\z.cell? ⟨eb,0,none⟩=some (.int .i64 kd)/\z.cell? ⟨eb,1,none⟩=some (.int .i64 s2)/\z.cell? ⟨eb,2,none⟩=some (.slice ap np cp)) (first | (exact Q.o _ m0) | go_keep)
  ((first
   | (go_at_call 100;refine (AP.o _ (by assumption)).mono ?_;rintro e w6 ⟨⟨rv,rfl,hrv⟩,m3⟩;clear m0;have m0:=m3;clear m3)))
 have HA6:=h_ (HA0.later m0);have HB6:=bT HB0 m0;clear m0 hrv AP Q HE0 HA0;go_wp2;go_ret;exact ⟨rfl,ze3 HB6.o l_,.inl ⟨HN.o,HA6.o⟩⟩
/- -/
def WtO (W:World) (St:World->Bs->Int->List PairB->Prop) (r:Bs × Int × List PairB × Nat × Nat) (e:Ending) (w':World):Prop :=
 e=.returned (.tuple #[.int .i64 (r.2.2.2.1:Nat),.int .i64 (r.2.2.2.2:Nat)])/\Below W.heap.size W w'/\(r.2.2.2.2=0->St w' r.1 r.2.1 r.2.2.1)
theorem WtO.no {W w':World} {St:World->Bs->Int->List PairB->Prop} {r:Bs × Int × List PairB × Nat × Nat} {k E:Nat} {y z:Int} (h:r=([],0,[],k,E)) (hE:E≠0) (hy:y=(k:Int)) (hz:z=(E:Int)) (hb:Below W.heap.size W w') :
  WtO W St r (.returned (.tuple #[.int .i64 y,.int .i64 z])) w':=by
 subst h hy hz;exact ⟨rfl,hb,fun h=>absurd h hE⟩
def PutO (W wz:World) (St:World->Bs->Int->List PairB->Prop) (l:Bs) (s:Int) (u:List PairB) (e:Ending) (w':World):Prop :=
 e=.returned (.tuple #[])/\Below W.heap.size W w'/\(∀ j sv ev,Tbox wz j sv ev->Tbox w' j sv ev)/\St w' l s u
def TakO (g:Nat) (wz:World) (St:World->Bs->Int->List PairB->Prop) (cs:List ColB) (l:Bs) (s:Int) (u:List PairB) (x:EntB) (e:Ending) (w':World):Prop :=
 e=.returned (.int .i64 (apE cs s u x:Nat))/\Only (fun j=>j=g) wz w'/\(apE cs s u x=0->St w' l (apN cs s u x) (apV cs s u x))
theorem zqZ (pn:Nat) (hpn:∀ (args:Array Value) (u:World),(callFunc pn args).run prog u=.ok (.enter pn args) u) (cap:Array Value) (g:Nat) (St:World->Bs->Int->List PairB->Prop)
  (v:Value) (cs:List ColB) (es:List EntB) (W w:World) (hW:Below W.heap.size W w) (hg:g < w.heap.size) (hgW:W.heap.size<=g)
  (hT:RdT13 W v cs es) (hC:CS cs) (hO:∀ x ∈ es,EnO x) (hTb:Tabs W) (hF:Frs W) (hS0:St w [] 0 [])
  (steady:∀ w1 w2 l s u,St w1 l s u->Below w1.heap.size w1 w2->St w2 l s u)
  (take:∀ wz ev x l s u,Below W.heap.size W wz->St wz l s u->PSO u->inW s->RdN wz ev x->EnO x->Calls prog 89 #[.pointer (some ⟨g,0,none⟩),ev] wz (TakO g wz St cs l s u x))
  (put:∀ wz pv p l s u,Below W.heap.size W wz->St wz l s u->Rd wz pv p->l.length + p.length<=70368744177664->Calls prog pn (#[pv] ++ cap) wz (PutO W wz St (l ++ p) s u)) :
  Calls prog 92 #[v,.func (.func 89) #[.pointer (some ⟨g,0,none⟩)] #[],.func (.func pn) #[] cap] w (WtO W St (trE cs es)):=by
 obtain ⟨sv,ev,rfl,hR,hZ⟩:=hT
 obtain ⟨ae,ne,ce,rfl⟩:=hZ.lit
 obtain ⟨ac,nc,cc,rfl⟩:=hR.lit12
 have HD:=fun wz (hz:Below W.heap.size W wz)=>zlC (.slice ac nc cc) cs wz (hR.later hz l_) hC (hTb.later hz)
 have hH:hdW (colsL cs)=if errS (colsL cs)≠0 then ([],errS (colsL cs)) else (hdB (colsL cs),0):=rfl
 have hE:trE cs es=if errS (colsL cs)≠0 then ([],0,[],0,errS (colsL cs)) else if (trW cs 0 0 [] es).2.2.2.2≠0 then trW cs 0 0 [] es else (hdB (colsL cs) ++ (trW cs 0 0 [] es).1,(trW cs 0 0 [] es).2):=rfl
 have hlen:=hZ.len
 have hsm:=hZ.small
 obtain ⟨N1,N2⟩:=za7 w (.cells #[.slice ac nc cc,.slice ae ne ce] 27)
 obtain ⟨w0,hw0⟩:=nm_ (w.alloc (.cells #[.slice ac nc cc,.slice ae ne ce] 27))
 rw [<- hw0] at N1 N2
 obtain ⟨tb,htb⟩:=nm_ w.heap.size
 rw [<- htb] at N1
 have HX0:=h_ (show Tbox w0 tb (.slice ac nc cc) (.slice ae ne ce) from N1)
 have HB0:=h_ (hW.trans (N2.mono hW.size))
 have HS0:=h_ (steady _ _ _ _ _ hS0 N2)
 have HW0:=h_ hw0
 have HG:=h_ htb
 have HGN:=h_ (show g < tb by omega)
 have HGW:=h_ hgW
 have STD:=h_ steady
 have TK:=h_ take
 have PT:=h_ put
 clear N1 N2 hw0 htb hS0 hW hg hgW steady take put
 by_cases h0:errS (colsL cs)=0
 ·rw [if_neg (fun h=>h h0)] at hH hE
  rw [hH] at HD
  have HDH:=h_ HD
  have hdl:=ze4 h0
  obtain ⟨H,hHd⟩:=nm_ (hdB (colsL cs))
  rw [<- hHd] at hE hdl HDH
  have HE:=h_ hE
  have HDL:=h_ hdl
  have HO:=h_ hO
  have HZ:=h_ (fun wz (hz:Below W.heap.size W wz)=>hZ.later hz l_)
  have HRC:=h_ (fun wz (hz:Below W.heap.size W wz)=>hR.later hz l_)
  have HTB:=h_ hTb
  have HFR:=h_ hF
  have HCC:=h_ hC
  obtain ⟨n,hn⟩:=nm_ es.length
  rw [<- hn] at hlen hsm
  have HN:=h_ hn
  clear HD hH hE hdl hHd hO hZ hR hn hTb hF hC
  go_enter func92,ntmps92
  obtain ⟨c0,c1⟩:=HX0.cells
  go_wp2_with fail
  rw [<- HW0.o,<- HG.o]
  refine (HDH.o w0 HB0.o).mono ?_
  rintro e w1 ⟨hv,rfl,hO1,hb⟩
  have HB1:=bT HB0 hb
  have HX1:=h_ (HX0.later hb)
  have HS1:=h_ (STD.o _ _ _ _ _ HS0.o hb)
  have PT1:=h_ (PT.o w1 hv H [] 0 [] HB1.o HS1.o (hO1.rd (by have:=HDL.o;show H.length<=_;omega)) (by have:=HDL.o;simp;omega))
  clear hb hO1 HDH c0 c1 HX0 HB0 HS0
  go_wp2_with fail
  refine PT1.mono ?_
  rintro e w2 ⟨rfl,hb2,ht2,hs2⟩
  have HB2:=h_ hb2
  have HX2:=h_ (ht2 _ _ _ HX1.o)
  have HS2:=h_ (show St w2 H 0 [] from by simpa using hs2)
  clear hb2 ht2 hs2 PT1 HX1 HB1 HS1
  obtain ⟨c0,c1⟩:=HX2.cells
  go_wp2
  go_loopw [30] (fun i wr=>∃ (k:Nat) (A:Bs) (sq:Int) (view:List PairB),k<=n/\i=.int .i64 k/\Hid (trW cs 0 0 [] (es.take k)=(A,sq,view,k,0))/\Hid (St wr (H ++ A) sq view)/\Hid (Tbox wr tb (.slice ac nc cc) (.slice ae ne ce))/\Hid (Below W.heap.size W wr)) (fun i _=>n - (intOf i).toNat)
  case atStart=>exact ⟨0,[],0,[],by omega,rfl,h_ (by rw [List.take_zero,trW]),h_ (by rw [List.append_nil];exact HS2.o),HX2,HB2⟩
  case round =>
   clear HX2 HB2 HS2 c0 c1
   obtain ⟨k,A,sq,view,hk,rfl,HS,HA,HXr,HB⟩:=hrel
   obtain ⟨c0,c1⟩:=HXr.cells
   have htb:tb < wr.heap.size:=(Array.getElem?_eq_some_iff.1 HXr.o).1
   by_cases hlt:k < n
   ·have hkn:k < es.length:=by rw [<- HN.o];exact hlt
    obtain ⟨b9,o9,pv,hidx,y0,y1,y2,hpv,hbl⟩:=(HZ.o W (Below.refl _ _)).get hkn
    obtain ⟨x,hx⟩:=nm_ (es.getD k default)
    have hXO:EnO x:=by rw [hx];exact HO.o _ (zvC hkn default)
    rw [<- hx] at y0 y1 hpv
    obtain ⟨kd,s2,ps⟩:=x
    dsimp only at y0 y1 y2 hpv
    obtain ⟨ap,np,cp,rfl⟩:=hpv.lit12
    have e0:=za5 HB.o y0
    have e1:=za5 HB.o y1
    have e2:=za5 HB.o y2
    obtain ⟨N1,N2⟩:=za7 wr (.cells #[.int .i64 kd,.int .i64 s2,.slice ap np cp] 92)
    have HNN:=h_ N2
    have HB3:=bT HB N2
    have HX3:=h_ (HXr.later N2)
    have HE3:=h_ (show Ebox _ wr.heap.size kd s2 (.slice ap np cp) from N1)
    have HEG:=h_ (show wr.heap.size≠g by have:=HGN.o;omega)
    clear N1 N2 y0 y1 y2 htb
    by_cases hlim:4096<=k
    ·have HT:=h_ (zAC HS.o hkn hlim)
     have hd:decide ((k:Int) ≥ 4096)=true:=decide_eq_true (by omega)
     clear hlim hkn hXO hpv hx hbl HE3
     go_wp2
     go_ret2
     exact WtO.no (by rw [HE.o,HT.o];exact if_pos (by simp)) (by decide) rfl rfl HB3.o
    ·have hd:decide ((k:Int) ≥ 4096)=false:=decide_eq_false (by omega)
     have hk4:k < 4096:=by omega
     obtain ⟨n1,n2,n3⟩:=zAD HO.o HS.o (by omega) (by omega)
     have hL:=zAE HS.o hkn hk4 hx
     have hM:=zAB HS.o hkn hk4 hx
     have hNx:=zwC HO.o HS.o hkn hk4 hx
     have HLN:=h_ (And.intro n3 (And.intro (entW_small cs (kd,s2,ps)) hk4))
     have TK3:=TK.o _ (.agg #[.int .i64 kd,.int .i64 s2,.slice ap np cp]) (kd,s2,ps) (H ++ A) sq view HB3.o (STD.o _ _ _ _ _ HA.o HNN.o) n1 n2 ⟨_,rfl,hpv.later HB3.o l_⟩ hXO
     have WR:=h_ (fun wz (hz:Below W.heap.size W wz)=>zk1 (.slice ac nc cc) (.agg #[.int .i64 kd,.int .i64 s2,.slice ap np cp]) cs (kd,s2,ps) wz (HRC.o wz hz) ⟨_,rfl,hpv.later hz l_⟩ HCC.o hXO (HTB.later hz) (HFR.later hz))
     unfold TakO at TK3
     obtain ⟨E,hEd⟩:=nm_ (apE cs sq view (kd,s2,ps))
     obtain ⟨R,hWd⟩:=nm_ (entW cs (kd,s2,ps))
     obtain ⟨V,hVd⟩:=nm_ (apV cs sq view (kd,s2,ps))
     obtain ⟨S,hSd⟩:=nm_ (apN cs sq view (kd,s2,ps))
     rw [<- hEd] at TK3 hL hM hNx
     rw [<- hWd] at WR hM hNx HLN
     rw [<- hVd,<- hSd] at TK3 hNx
     replace TK3:=h_ TK3
     obtain ⟨x0,x1,x2⟩:=HE3.cells
     obtain ⟨t0,t1⟩:=HX3.cells
     clear hEd hWd hVd hSd hx hXO n1 n2 n3 hlim hbl hkn hk4 hpv HA HS
     by_cases hE0:E=0
     ·subst hE0
      obtain ⟨B,y⟩:=R
      dsimp only at hM hNx HLN
      go_wp2_with fail
      refine TK3.mono ?_
      rintro e w4 ⟨rfl,hO4,hS4⟩
      have HS4:=h_ (hS4 (by simp))
      have HX4:=h_ (show Tbox w4 tb (.slice ac nc cc) (.slice ae ne ce) from hO4.keep HX3.o (by have:=HGN.o;omega))
      have HE4:=h_ (show Ebox w4 wr.heap.size kd s2 (.slice ap np cp) from hO4.keep HE3.o HEG.o)
      have HB4:=h_ (HB3.trans (hO4.toBelow (B:=W.heap.size) (fun j hj=>by subst hj;exact HGW.o) HB3.size))
      have WR4:=h_ (WR.o w4 HB4.o)
      clear hO4 hS4 TK3 WR HX3 HE3 HB3 HB c0 c1 x0 x1 x2 t0 t1 e0 e1 e2
      obtain ⟨x0,x1,x2⟩:=HE4.cells
      obtain ⟨t0,t1⟩:=HX4.cells
      go_wp2_with fail
      refine WR4.mono ?_
      rintro e w5 ⟨bv,rfl,hO5,hb⟩
      replace hO5:Own w5 w4.heap.size bv B:=hO5
      have HS5:=h_ (STD.o _ _ _ _ _ HS4.o hb)
      have HX5:=h_ (HX4.later hb)
      have HB5:=bT HB4 hb
      have HO5:=h_ hO5
      clear hb hO5 WR4 HS4 HX4 HE4 HB4 x0 x1 x2 t0 t1
      dsimp only
      by_cases hW0:y=0
      ·subst hW0
       have HNx:=h_ (hNx (by simp) rfl)
       have PT5:=h_ (PT.o w5 bv B (H ++ A) S V HB5.o HS5.o (HO5.rd (by have:=HLN.2.1;omega)) (by
        have h1:A.length<=k * 1048591:=HLN.1;have h2:=HDL.o;have h3:=HLN.2;rw [List.length_append];omega))
       clear hL hM hNx HS5 HO5
       go_wp2_with fail
       refine PT5.mono ?_
       rintro e w6 ⟨rfl,hb6,ht6,hs6⟩
       have HB6:=h_ hb6
       have HX6:=h_ (ht6 _ _ _ HX5.o)
       have HS6:=h_ (show St w6 (H ++ (A ++ B)) S V from by rw [<- List.append_assoc];exact hs6)
       clear hb6 ht6 hs6 PT5 HX5 HB5
       go_wp2
       go_roundw
       case rel=>exact ⟨k + 1,A ++ B,S,V,by omega,by go_num,HNx,HS6,HX6,HB6⟩
       case measure=>simp [intOf];omega
      ·have HT:=h_ (hM (by simp) hW0)
       have HW9:=h_ hW0
       have q:((y:Int) != 0)=true:=by rw [bne_iff_ne];omega
       clear hL hM hNx hW0
       go_wp2
       go_ret2
       exact WtO.no (by rw [HE.o,HT.o];exact if_pos HW9.o) HW9.o rfl rfl HB5.o
     ·have HT:=h_ (hL hE0)
      have q:((E:Int) != 0)=true:=by rw [bne_iff_ne];omega
      have HE0:=h_ hE0
      clear hL hM hNx hE0
      go_wp2_with fail
      refine TK3.mono ?_
      rintro e w4 ⟨rfl,hO4,hS4⟩
      have HB4:=h_ (HB3.trans (hO4.toBelow (B:=W.heap.size) (fun j hj=>by subst hj;exact HGW.o) HB3.size))
      clear hO4 hS4 TK3 WR HX3 HE3 HB3 HB c0 c1 x0 x1 x2 t0 t1 e0 e1 e2
      go_wp2
      go_ret2
      exact WtO.no (by rw [HE.o,HT.o];exact if_pos HE0.o) HE0.o rfl rfl HB4.o
   ·obtain rfl:k=n:=by omega
    have HT:=h_ (show trW cs 0 0 [] es=(A,sq,view,k,0) from by have:=HS.o;rwa [List.take_of_length_le (by rw [HN.o];exact l_)] at this)
    have HR:=h_ (show trE cs es=(H ++ A,sq,view,k,0) from by rw [HE.o,HT.o];exact if_neg (by simp))
    clear hlt htb
    go_wp2
    go_ret2
    unfold WtO
    rw [HR.o]
    exact ⟨rfl,HB.o,fun _=>HA.o⟩
 ·rw [if_pos h0] at hH hE
  rw [hH] at HD
  have HDH:=h_ HD
  have HE:=h_ hE
  obtain ⟨E,hEd⟩:=nm_ (errS (colsL cs))
  rw [<- hEd] at h0 HDH HE
  have HE0:=h_ h0
  have q:((E:Int) != 0)=true:=by rw [bne_iff_ne];omega
  clear HD hH hE hEd hO hZ hR h0 hlen hsm hTb hF hC
  go_enter func92,ntmps92
  obtain ⟨c0,c1⟩:=HX0.cells
  go_wp2_with fail
  rw [<- HW0.o,<- HG.o]
  refine (HDH.o w0 HB0.o).mono ?_
  rintro e w1 ⟨hv,rfl,hO1,hb⟩
  have HB1:=bT HB0 hb
  clear hb hO1 HDH c0 c1
  go_wp2
  go_ret2
  exact WtO.no HE.o HE0.o rfl rfl HB1.o
/- -/
def StV (g base:Nat) (sv:Value) (w:World) (l:Bs) (s:Int) (u:List PairB):Prop :=
 base<=w.heap.size/\∃ vv,Abox w g sv s vv/\OffS w vv u fun q=>q < base
theorem StV.steady {g base:Nat} {sv:Value} {w1 w2:World} {l:Bs} {s:Int} {u:List PairB} (h:StV g base sv w1 l s u) (hb:Below w1.heap.size w1 w2):StV g base sv w2 l s u:=by
 obtain ⟨h0,vv,h1,h4⟩:=h;exact ⟨Nat.le_trans h0 hb.size,vv,h1.later hb,h4.later hb⟩
theorem StV.take {g base:Nat} {sv ev:Value} {cs:List ColB} {wz:World} {x:EntB} {l:Bs} {s:Int} {u:List PairB} (hg:g < base) (h:StV g base sv wz l s u)
  (hR:RdC wz sv cs) (hC:CS cs) (hT:Tabs wz) (hu:PSO u) (hs:inW s) (hE:RdN wz ev x) (hX:EnO x) :
  Calls prog 89 #[.pointer (some ⟨g,0,none⟩),ev] wz (TakO g wz (StV g base sv) cs l s u x):=by
 obtain ⟨h0,vv,h1,h4⟩:=h;refine (zlB g sv vv ev cs s u x wz h1 hR h4.rd hE hC hu hX hs hT).mono ?_;rintro e w' ⟨rfl,hO,hq⟩;refine ⟨rfl,hO,fun h9=>?_⟩;rcases hq with ⟨hn,_⟩ | ⟨_,vn,hA,hN⟩
 ·exact absurd h9 hn
 exact ⟨Nat.le_trans h0 hO.size,vn,hA,hN.offS fun j hj hq=>by omega⟩
theorem zu3 (pv:Value) (w:World):Calls prog 93 #[pv] w fun e w'=>e=.returned (.tuple #[])/\w=w':=by
 go_enter func93,ntmps93;go_wp2;exact ⟨rfl,.tuple #[],by simp [results,results93,go_sem],rfl,rfl⟩
theorem zpT (args:Array Value) (u:World):(callFunc 93 args).run prog u=.ok (.enter 93 args) u:=zk4 func93 (by kernel_rfl) rfl args u
theorem zr0 (v:Value) (cs:List ColB) (es:List EntB) (w:World) (hT:RdT13 w v cs es) (hC:CS cs) (hO:∀ x ∈ es,EnO x) (hTb:Tabs w) (hF:Frs w) :
  Calls prog 70 #[v] w (zFP w (trE cs es)):=by
 have hmf:∀ (fn:Fn) (first cap:Array Value) (w:World),(Instr.makeFunc fn first cap).run prog w=.ok (.func fn first cap) w:=fun _ _ _ _=>rfl;obtain ⟨sv,ev,rfl,hR,hZ⟩:=hT;obtain ⟨ae,ne,ce,rfl⟩:=hZ.lit;obtain ⟨ac,nc,cc,rfl⟩:=hR.lit12;obtain ⟨hs3,z1,z3,hb3⟩:=new2 w (.cells #[.slice ac nc cc,.slice ae ne ce] 27) (.cells #[.slice ac nc cc,.int .i64 0,.slice none 0 0] 155);obtain ⟨w3,hw3⟩:=nm_ ((w.alloc (.cells #[.slice ac nc cc,.slice ae ne ce] 27)).alloc (.cells #[.slice ac nc cc,.int .i64 0,.slice none 0 0] 155));rw [<- hw3] at hs3 z1 z3 hb3
 have HW:=h_ (zqZ 93 zpT #[] (w.heap.size + 1) (StV (w.heap.size + 1) (w.heap.size + 2) (.slice ac nc cc))
  (.agg #[.slice ac nc cc,.slice ae ne ce]) cs es w w3 hb3 (by omega) (by omega) ⟨_,_,rfl,hR,hZ⟩ hC hO hTb hF
  ⟨by omega,_,z3,OffS.nil _ _⟩ (fun _ _ _ _ _ h hb=>h.steady hb)
  (fun wz ev x l s u hz h hu hs hE hX=>StV.take (by omega) h (hR.later hz l_) hC (hTb.later hz) hu hs hE hX)
  (fun wz pv p l s u hz h hp hl=>(zu3 pv wz).mono (by rintro e w' ⟨rfl,rfl⟩;exact ⟨rfl,hz,fun _ _ _ h=>h,h⟩)))
 obtain ⟨r,hr⟩:=nm_ (trE cs es);have hno:=fun h=>zD6 (cs:=cs) (es:=es) h;rw [<- hr] at HW hno;rw [<- hr];have HNO:=h_ hno;have HW3:=h_ hw3;have HT3:=h_ (show Tbox w3 w.heap.size (.slice ac nc cc) (.slice ae ne ce) from z1);clear hno hr hR hZ hC hO hTb hF hs3 z1 z3 hb3 hw3;obtain ⟨rb,rs,rv,ri,rx⟩:=r;unfold WtO at HW;dsimp only at HW HNO;obtain ⟨c0,c1⟩:=HT3.cells;go_enter func70,ntmps70;by_cases h0:rx=0
 ·subst h0;rw [HW3.o] at c0 c1;go_wp2_with fail;rw [<- HW3.o];refine HW.mono ?_;rintro e w5 ⟨rfl,hb,hs⟩;obtain ⟨_,vv,hA,hO⟩:=hs (by simp);obtain ⟨av,nv,cv,rfl⟩:=hO.rd.lit12;obtain ⟨a0,a1,a2⟩:=hA.cells;have HO:=h_ (hO.more (Q':=fun j=>j < w.heap.size) fun j _ h k=>h (by omega));have HB:=h_ hb;clear hs hA hO hb c0 c1;go_wp2;go_region;go_wp2;go_ret3;exact ⟨_,rfl,HO.later (Below.refl _ _).drew,HB.drew⟩
 have q:((rx:Int) != 0)=true:=by rw [bne_iff_ne];omega
 obtain ⟨_,_,e2,e3⟩:=HNO.o h0;subst e2 e3;clear h0;rw [HW3.o] at c0 c1;go_wp2_with fail;rw [<- HW3.o];refine HW.mono ?_;rintro e w5 ⟨rfl,hb,hs⟩;have HB:=h_ hb;clear hs hb c0 c1;go_wp2;go_ret3;exact ⟨_,rfl,OffS.nil _ _,HB.o⟩
