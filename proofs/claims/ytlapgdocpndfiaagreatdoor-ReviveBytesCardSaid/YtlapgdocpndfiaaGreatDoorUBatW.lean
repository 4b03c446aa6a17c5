/- -/
import Derived.Test.YtlapgdocpndfiaaGreatDoorUColRd
import Derived.Test.YtlapgdocpndfiaaGreatDoorUFrame
set_option maxHeartbeats 16000000
set_option linter.unusedVariables false
set_option linter.unusedSimpArgs false
set_option maxRecDepth 1000000
namespace Go.Proofs.YtlapgdocpndfiaaGreatDoor
open _root_.Go.Proofs.Tryz
open Go.RowKit Go.Shelf
theorem zjV:∀ (cs:List CellB) (i:Nat) (c:CellB),i < cs.length->(((cs.map cellVs).flatten.set (i * 2) (.int .u64 (c.1:Int))).set (i * 2 + 1) (.string c.2))=((cs.set i c).map cellVs).flatten
 | [],i,c,h=>by simp at h
 | x :: r,0,c,h=>by simp [cellVs]
 | x :: r,i + 1,c,h=>by
  have ih:=zjV r i c (by simpa using h)
  rw [List.set_cons_succ,List.map_cons,List.map_cons,List.flatten_cons,List.flatten_cons,<- ih]
  rw [show (i + 1) * 2=i * 2 + 2 from by omega]
  rfl
section
variable {w w':World} {v:Value} {cs:List CellB} {base:Nat}
theorem OwnE.setE (h:OwnE w base v cs) {i:Nat} (hi:i < cs.length) {g cap:Nat} (hv:v=.slice (some ⟨g,0,none⟩) cs.length cap) :
  ∀ c:CellB,OwnE ((w.setCell ⟨g,i * 2,none⟩ (.int .u64 (c.1:Int))).setCell ⟨g,i * 2 + 1,none⟩ (.string c.2)) base v (cs.set i c):=by
 obtain ⟨⟨h0,h2⟩,h3⟩:=h;rw [List.length_map] at h2 h0;rcases h2 with ⟨rfl,hn⟩ | ⟨g',cap',cur,rfl,hbg,hg,hn,hm,hs,ht⟩
 ·exact absurd hi (by omega)
 simp only [Value.slice.injEq,Option.some.injEq,Addr.mk.injEq] at hv;obtain ⟨⟨rfl,_⟩,_,rfl⟩:=hv;refine fun c=>⟨⟨?_,.inr ⟨g',cap',(cur.setIfInBounds (i * 2) (.int .u64 (c.1:Int))).setIfInBounds (i * 2 + 1) (.string c.2),by rw [List.length_map,List.length_set],hbg,block_setCell (block_setCell hg _) _,by rw [List.length_map,List.length_set];exact hn,hm,by simpa using hs,?_⟩⟩,zjU _,zn5 _⟩
 ·rw [<- zjV cs i c hi,List.length_set,List.length_set,List.length_map,List.length_set];exact h0
 rw [<- zjV cs i c hi,List.length_map,List.length_set,Array.toList_setIfInBounds,Array.toList_setIfInBounds,List.take_set,List.take_set];rw [ht]
theorem OwnE.atE (h:OwnE w base v cs) {i:Nat} (hi:i < cs.length) (hs:cs.length<=140737488351232) {g cap:Nat} (hv:v=.slice (some ⟨g,0,none⟩) cs.length cap) :
  (∀ u,(Instr.indexAt 84 v (.int .i64 (i:Int))).run prog u=.ok (.pointer (some ⟨g,i * 2,none⟩)) u) /\
  w.cell? ⟨g,i * 2,none⟩=some (.int .u64 ((cs.getD i default).1:Int))/\w.cell? ⟨g,i * 2 + 1,none⟩=some (.string (cs.getD i default).2) /\
  w.frozen? ⟨g,i * 2,none⟩=false/\w.frozen? ⟨g,i * 2 + 1,none⟩=false /\
  (∀ u,(w.setCell ⟨g,i * 2,none⟩ u).cell? ⟨g,i * 2 + 1,none⟩=some (.string (cs.getD i default).2)/\(w.setCell ⟨g,i * 2,none⟩ u).frozen? ⟨g,i * 2 + 1,none⟩=false):=by
 have hrd:=h.rd hs;have hi':i < (cs.map cellVs).length:=by simpa using hi
 have hx:=RdG.idx hrd zcX i hi';have hc:=fun j u=>RdG.cells hrd i hi' j u;rw [getD_map cellVs cs i hi default] at hc;have hc0:=hc 0 _ rfl;have hc1:=hc 1 _ rfl;have e:∀ k,adr v k=⟨g,k,none⟩:=fun k=>by rw [hv,zaK,Nat.zero_add]
 rw [e] at hx hc0 hc1;have hn:zeE.n=2:=rfl;rw [hn] at hx hc0 hc1;have hf:∃ cur z,w.heap[g]?=some (.cells cur z (0,0)):=by
  obtain ⟨⟨_,h2⟩,_⟩:=h;rw [List.length_map] at h2;rcases h2 with ⟨h9,_⟩ | ⟨g',cap',cur,h9,_,hg,_⟩
  ·rw [hv] at h9;cases h9
  rw [hv] at h9;cases h9;exact ⟨cur,_,hg⟩
 obtain ⟨cur,z,hg⟩:=hf;refine ⟨hx,hc0,hc1,frozen_of_row _ _ _ _ _ hg,frozen_of_row _ _ _ _ _ hg,fun u=>⟨?_,frozen_of_row _ _ _ _ _ (block_setCell hg _)⟩⟩;have hc1':w.cell? ⟨g,i * 2 + 1,none⟩=some (.string (cs.getD i default).2):=hc1;rw [cell_of_row _ _ _ _ _ _ hg] at hc1';rw [cell_of_row _ _ _ _ _ _ (block_setCell hg _),Array.getElem?_setIfInBounds,if_neg (by omega)];exact hc1'
end
theorem zyR:(prog.info? 82).map (fun i=>(i.zero,i.size,i.bytes))=some (some (.agg #[.int .u64 0,.string ⟨#[]⟩]),2,24):=by kernel_rfl
theorem zm0:∀ n:Nat,((List.replicate n ((0,⟨#[]⟩):CellB)).map cellVs).flatten=(List.range (n * 2)).map (fun i=>(#[Value.int .u64 0,.string ⟨#[]⟩]:Array Value)[i % 2]!)
 | 0=>rfl
 | n + 1=>by
  rw [List.replicate_succ,List.map_cons,List.flatten_cons,zm0 n,show (n + 1) * 2=n * 2 + 1 + 1 from by omega,List.range_succ_eq_map,List.map_cons,List.range_succ_eq_map,List.map_cons,List.map_map,List.map_cons,List.map_map]
  show Value.int .u64 0 :: Value.string ⟨#[]⟩ :: _=_
  congr 1
  congr 1
  refine List.map_congr_left fun i _=>?_
  simp only [Function.comp]
  rw [show (Nat.succ (Nat.succ i)) % 2=i % 2 from by omega]
theorem zv8 (n:Nat) (hn:n<=1024) (u:World):(Instr.makeSlice 84 (.int .i64 (n:Int)) (.int .i64 (n:Int))).run prog u =
  .ok (.slice (some ⟨u.heap.size,0,none⟩) n n) (u.alloc (.cells (List.replicate n (cellVs (0,⟨#[]⟩))).flatten.toArray 82)):=by
 obtain ⟨i0,hi,hz0,hz1,hz2⟩:=info_parts zyR;have h:=run_make (P:=prog) u 84 82 i0 (.agg #[.int .u64 0,.string ⟨#[]⟩]) underlying84 hi hz0 .i64 .i64 (n:Int) (n:Int) (by omega) (Int.le_refl _) (by rw [hz2];omega) (by omega);rw [h,hz1,Int.toNat_natCast,<- List.map_replicate,zm0];congr 3;simp [madeCells,Value.cells];apply Array.ext
 ·simp
 intro i h1 h2;simp
theorem zy1 (w:World) (base n:Nat) (hb:base<=w.heap.size) (hn:n<=1024) :
  OwnE (w.alloc (.cells (List.replicate n (cellVs (0,⟨#[]⟩))).flatten.toArray 82)) base (.slice (some ⟨w.heap.size,0,none⟩) n n) (List.replicate n (0,⟨#[]⟩)):=by
 rw [<- List.map_replicate];have:=zd7 zeE w base hb ((List.replicate n ((0,⟨#[]⟩):CellB)).map cellVs) (zjU _) (zn5 _) (by rw [List.length_map,List.length_replicate];omega);rw [List.length_map,List.length_replicate] at this;exact this
theorem zyZ {α:Type} (L:List α) (n k:Nat) (x z:α) (hL:L.length=k) (hk:k < n):(L ++ List.replicate (n - k) z).set k x=(L ++ [x]) ++ List.replicate (n - (k + 1)) z:=by
 rw [List.set_append_right _ _ (by omega),show n - k=(n - (k + 1)) + 1 from by omega,List.replicate_succ,hL,Nat.sub_self,List.set_cons_zero,List.append_assoc];rfl
theorem znT (v:Value) (ps:List PairB) (k:Nat) (w:World) (hP:RdP w v ps) (hw:∀ p ∈ ps,k < p.1.length) (hn:ps.length<=1024) :
  Calls prog 190 #[v,.int .i64 (k:Int)] w fun e w'=>∃ u,e=.returned u/\OwnE w' w.heap.size u (colB k ps)/\Below w.heap.size w w':=by
 have hln:=hP.len;obtain ⟨n,hnn⟩:=nm_ ps.length;rw [<- hnn] at hln hn;have hmk:=zv8 n hn;have HN:=h_ hnn;have HP:=h_ hP;have HW:=h_ hw;have HO0:=h_ (zy1 w w.heap.size n l_ hn);have HB0:=h_ (show Below w.heap.size w (w.alloc (.cells (List.replicate n (cellVs (0,⟨#[]⟩))).flatten.toArray 82)) from (Below.refl _ _).alloc l_ _);clear hP hw hnn;go_enter func190,ntmps190;go_wp2;generalize w.alloc (.cells (List.replicate n (cellVs (0,⟨#[]⟩))).flatten.toArray 82)=w0 at *;obtain ⟨g,hg⟩:=nm_ w.heap.size;rw [<- hg] at HO0 ⊢;have HG:=h_ hg;obtain ⟨v5,hv5⟩:=nm_ (Value.slice (some ⟨g,0,none⟩) n n);rw [<- hv5] at HO0 ⊢;have HV5:=h_ hv5;clear hv5 hg hmk;go_loopw [13] (fun i wr=>∃ j:Nat,j<=n/\i=.int .i64 j/\Hid (Below w.heap.size w wr)/\Hid (OwnE wr g v5 (colB k (ps.take j) ++ List.replicate (n - j) (0,⟨#[]⟩)))) (fun i _=>n - (intOf i).toNat)
 case atStart=>exact ⟨0,by omega,rfl,HB0,h_ (by rw [List.take_zero];exact HO0.o)⟩
 clear HB0 HO0;obtain ⟨j,hj,rfl,HB,HO⟩:=hrel;by_cases hlt:j < n
 ·have d1:decide ((j:Int) < (n:Int))=true:=decide_eq_true (by omega);have hjp:j < ps.length:=by rw [<- HN.o];exact hlt
  have hmem:ps.getD j default ∈ ps:=by
   have e:ps.getD j default=ps[j]:=(by simp [List.getD,hjp]);rw [e];exact List.getElem_mem _
  have hwk:=HW.o _ hmem;obtain ⟨b,o,rv,hidx,c0,c1,hre,hbl⟩:=HP.get hjp;obtain ⟨ao,nn,cap,rfl⟩:=hre.lit;have hc0:=(HB.cell (p:=⟨b,o,none⟩) hbl).trans c0;have hc1:=(HB.cell (p:=⟨b,o + 1,none⟩) hbl).trans c1;obtain ⟨x,hx⟩:=nm_ ((ps.getD j default).2);rw [<- hx] at hc1;obtain ⟨b2,o2,hidx2,hcell2,_⟩:=hre.get hwk;obtain ⟨W7,hW7⟩:=nm_ (wr.alloc (.cells #[.slice ao nn cap,.int .i64 x] 86));have hb7:Below wr.heap.size wr W7:=by rw [hW7];exact (Below.refl _ _).alloc l_ _
  have HB7:=bT HB hb7;obtain ⟨e0,e1⟩:=hcell2 W7 (hre.later HB7.o l_);have hO7:=HO.later hb7 l_;have hll:(colB k (ps.take j) ++ List.replicate (n - j) ((0,⟨#[]⟩):CellB)).length=n:=by rw [List.length_append,zdT,List.length_take,List.length_replicate];omega
  obtain ⟨i0,f0,f1,f2,f3,f4⟩:=hO7.atE (i:=j) (by omega) (by omega) (g:=g) (cap:=n) (by rw [hll];exact HV5.o);have hset:=hO7.setE (i:=j) (by omega) (g:=g) (cap:=n) (by rw [hll];exact HV5.o);have hcl:(colB k (ps.take j)).length=j:=by rw [zdT,List.length_take];omega
  have hct:=zzA (k:=k) hjp;rcases hcg:(ps.getD j default).1.getD k default with ⟨y,t⟩
  rw [hcg] at e0 e1 hct;dsimp only at e0 e1;have h4a:=(f4 (.int .u64 (y:Int))).1;have h4b:=(f4 (.int .u64 (y:Int))).2
  have HO9:=h_ (show OwnE ((W7.setCell ⟨g,j * 2,none⟩ (.int .u64 (y:Int))).setCell ⟨g,j * 2 + 1,none⟩ (.string t)) g v5 (colB k (ps.take (j + 1)) ++ List.replicate (n - (j + 1)) (0,⟨#[]⟩)) from by
   have:=hset (y,t)
   rw [zyZ _ n j (y,t) _ hcl hlt] at this
   rw [hct];exact this)
  have HB9:=h_ (show Below w.heap.size w ((W7.setCell ⟨g,j * 2,none⟩ (.int .u64 (y:Int))).setCell ⟨g,j * 2 + 1,none⟩ (.string t)) from
   (HB7.setCell (p:=⟨g,j * 2,none⟩) (by rw [HG.o];exact l_) _).setCell (p:=⟨g,j * 2 + 1,none⟩) (by rw [HG.o];exact l_) _)
  generalize hvA:((colB k (ps.take j) ++ List.replicate (n - j) ((0,⟨#[]⟩):CellB)).getD j default).1=vA at f0;generalize hvB:((colB k (ps.take j) ++ List.replicate (n - j) ((0,⟨#[]⟩):CellB)).getD j default).2=vB at f1 h4a;generalize j * 2=j2 at *;subst hW7;clear hcl hx hre hcell2 hct hcg hset hO7 f4 hll hmem hwk c0 c1 HB HO hb7 HB7 hvA hvB;go_wp2;go_roundw
  case rel=>exact ⟨j + 1,by omega,by go_num,HB9,HO9⟩
  simp [intOf];omega
 obtain rfl:j=n:=by omega
 have d1:decide ((j:Int) < (j:Int))=false:=decide_eq_false (by omega)
 have HF:=h_ (show OwnE wr w.heap.size v5 (colB k ps) from by
  have:=HO.o
  rw [Nat.sub_self,List.replicate_zero,List.append_nil,List.take_of_length_le (by rw [<- HN.o];exact l_)] at this
  rw [<- HG.o];exact this)
 clear HO;go_wp2;go_ret;exact ⟨_,rfl,HF.o,HB.o⟩
theorem zAK {kind:Int} {l:List Ce} (h:∀ c ∈ l,Fit kind c):sumT l<=256 * l.length:=by
 induction l with
 | nil=>simp [sumT]
 | cons c r ih =>
  have i1:=ih (fun x hx=>h x (by simp [hx]));have i2:=h c (by simp);have i3:c.2.length<=256:=by
   by_cases ht:kind=3∨kind=4
   ·exact (i2.text ht).2.1
   rw [(i2.num ht).1];simp
  rw [sumT,List.length_cons];omega
theorem zsB (sv av:Value) (cs:List ColB) (ps:List PairB) (w:World) (hR:RdC w sv cs) (hP:RdP w av ps) (hC:CS cs) (hPS:PSO ps) (hT:Tabs w) :
  Calls prog 134 #[sv,av] w fun e w'=>∃ b,e=.returned (.tuple #[b,.int .i64 (chkZ cs ps:Nat)])/\Own w' w.heap.size b (if chkZ cs ps=0 then btWr (kindsL cs) (psL ps) else [])/\Below w.heap.size w w':=by
 have HCk:=h_ (zd2 sv av cs ps w hR hP hC hPS hT);have hOk:=zx1 (cs:=cs) hPS;obtain ⟨ck,hck⟩:=nm_ (chkZ cs ps);rw [<- hck] at HCk hOk ⊢;clear hck;by_cases h0:ck=0
 ·subst h0;rw [if_pos rfl];have hok:=(hOk rfl).1;have hfew:=hok.few;have hcols:=hok.cols;have hln:=hP.len;have hlc:=hR.len;obtain ⟨n,hn⟩:=nm_ ps.length;obtain ⟨K,hK⟩:=nm_ cs.length;rw [<- hn] at hln hfew;rw [<- hK] at hlc hcols;have HN:=h_ hn;have HK:=h_ hK;have HOK:=h_ hok;have HR:=h_ hR;have HP:=h_ hP;have HC:=h_ hC;have HPS:=h_ hPS;have HT:=h_ hT;clear hR hP hC hPS hOk hok hn hK hT;go_enter func134,ntmps134;go_wp2_with fail;refine HCk.mono ?_;rintro e w1 ⟨rfl,hb⟩;have HB1:=h_ hb;clear hb HCk;go_wp2_with fail;refine (zcL (n:Int) (by omega) (by omega) w1).mono ?_;rintro e w2 ⟨ov,rfl,hO,hb⟩;rw [Int.toNat_natCast] at hO;have HB2:=bT HB1 hb;have HO2:=h_ (hO.base (base':=w.heap.size) HB1.size);have hle0:=zaC n (by omega);clear hb hO HB1;go_wp2;go_loopw [7,26] (fun b i wr=>∃ k:Nat,k<=K/\i=.int .i64 k/\Hid (Below w.heap.size w wr)/\Hid (Own wr w.heap.size b (encU n ++ zaQ ((kindsL cs).take k) 0 (zbC ps)))/\Hid ((encU n ++ zaQ ((kindsL cs).take k) 0 (zbC ps)).length<=10 + k * 272384)) (fun _ i _=>K - (intOf i).toNat)
  case atStart=>exact ⟨0,by omega,rfl,HB2,h_ (by rw [List.take_zero,zaQ,List.append_nil];exact HO2.o),h_ (by rw [List.take_zero,zaQ,List.append_nil];omega)⟩
  clear HB2 HO2;obtain ⟨k,hk,rfl,HB,HO,HL⟩:=hrel;by_cases hlt:k < K
  ·have hkc:k < cs.length:=(by rw [<- HK.o];exact hlt);have d1:decide ((k:Int) < (K:Int))=true:=decide_eq_true (by omega);have hwd:∀ p ∈ ps,k < p.1.length:=fun p hp=>(by rw [HOK.wide p hp];exact hkc);have hcl:=zzE hwd;obtain ⟨f1,f2,f3⟩:=HOK.col hkc;have hrc:=HR.later HB.o l_;obtain ⟨b,o,hidx,hcell,_⟩:=hrc.get hkc;obtain ⟨e0,e1⟩:=hcell _ hrc;rcases hcg:cs.getD k default with ⟨nm,kd⟩
   rw [hcg] at e0 e1 f1 f2 f3;dsimp only at e0 e1 f1 f2 f3;have hWE:wrE kd (cesL (colB k ps))=0:=by
    unfold wrE;rw [if_neg (by omega)];refine zBM (fun c hc=>?_);rw [hcl] at hc;exact f2 c hc
   have hsum:10 * (colB k ps).length + sumT (cesL (colB k ps))<=1000000:=by
    have h1:sumT (cesL (colB k ps))<=256 * (cesL (colB k ps)).length:=by
     rw [hcl];exact zAK f2
    rw [za8] at h1;rw [zdT] at h1 ⊢;have:=HOK.few;omega
   have hces:=zBX HPS.o hwd;obtain ⟨W7,hW7⟩:=nm_ (wr.alloc (.cells #[.string nm,.int .i64 kd] 79));have hb7:Below wr.heap.size wr W7:=(by rw [hW7];exact (Below.refl _ _).alloc l_ _);have HB7:=bT HB hb7;have HO7:=h_ (HO.later hb7 l_);have hn7:W7.heap[wr.heap.size]?=some (.cells #[.string nm,.int .i64 kd] 79 (0,0)):=(by rw [hW7];exact heap_alloc_new _ _);obtain ⟨b7,hb79⟩:=nm_ wr.heap.size;have hs7:b7 < W7.heap.size:=(by rw [hb79];exact (Array.getElem?_eq_some_iff.1 hn7).1);rw [<- hb79] at hn7
   have CO:=h_ (fun wz (hz:Below W7.heap.size W7 wz)=>show Calls prog 190 #[av,.int .i64 (k:Int)] wz fun e w'=>(∃ u,e=.returned u/\RdE w' u (colB k ps))/\Below W7.heap.size W7 w'/\w'.cell? ⟨b7,1,none⟩=some (.int .i64 kd) from by
    refine (znT av ps k wz (HP.later (HB7.trans (hz.mono HB7.size)) l_) hwd (by rw [<- HN.o];exact hfew)).mono ?_
    rintro e w' ⟨u,he,hu,hb⟩
    have hb9:=hz.trans (hb.mono hz.size)
    refine ⟨⟨u,he,hu.rd (by rw [zdT,<- HN.o];omega)⟩,hb9,?_⟩
    rw [cell_of_row _ _ _ _ _ _ ((hb9.block b7 hs7).trans hn7)];rfl)
   have CW:=h_ (fun wz u (hz:Below W7.heap.size W7 wz) (hu:RdE wz u (colB k ps))=>show Calls prog 189 #[.int .i64 kd,u] wz fun e w'=>(∃ b,e=.returned (.tuple #[b,.int .i64 0])/\Own w' W7.heap.size b (wrC kd (btCol k (zbC ps))))/\Below W7.heap.size W7 w'/\w'.cell? ⟨b7,1,none⟩=some (.int .i64 kd) from by
    refine (zpZ kd u (colB k ps) wz hu hces (HT.later (HB7.trans (hz.mono HB7.size))) (fun _=>hsum)).mono ?_
    rintro e w' ⟨b,he,hO,hb⟩
    rw [hWE] at he hO
    rw [if_pos rfl,hcl] at hO
    have hb9:=hz.trans (hb.mono hz.size)
    refine ⟨⟨b,he,hO.base hz.size⟩,hb9,?_⟩
    rw [cell_of_row _ _ _ _ _ _ ((hb9.block b7 hs7).trans hn7)];rfl)
   have hm1:W7.cell? ⟨b7,1,none⟩=some (.int .i64 kd):=(by rw [cell_of_row _ _ _ _ _ _ hn7];rfl);have HF3:=h_ f3;have hkt:(kindsL cs).take (k + 1)=(kindsL cs).take k ++ [kd]:=by
    have hkl:k < (kindsL cs).length:=(by unfold kindsL;rw [List.length_map];exact hkc);rw [zaE hkl 0];unfold kindsL;simp [List.getD,hkc] at hcg ⊢;rw [hcg]
   have hkl2:((kindsL cs).take k).length=k:=(by rw [List.length_take];unfold kindsL;rw [List.length_map];omega);have HKT:=h_ hkt;have HKL:=h_ hkl2;have HW7:=h_ hW7;have HW9:=h_ hb79;clear hcl f1 f2 f3 hcg hWE hsum hwd hcell hrc hkt hkl2 hces hW7 hb7 hn7 hs7 hb79 HB HO;go_wp2;rw [<- HW7.o]
   try rw [<- HW9.o]
   have m0:Below W7.heap.size W7 W7.drew:=(Below.refl _ _).drew;have m1:W7.drew.cell? ⟨b7,1,none⟩=some (.int .i64 kd):=hm1;go_region_held3 (fun u=>Below W7.heap.size W7 u/\u.cell? ⟨b7,1,none⟩=some (.int .i64 kd)) (first | (exact ⟨m0,m1⟩) | go_keep)
    ((first
     | (go_at_call 190;refine (CO.o _ (by first | exact (Below.refl _ _).drew | assumption)).mono ?_;rintro e w8 ⟨⟨cv,rfl,hcv⟩,m3,m4⟩;clear m0 m1;have m0:=m3;have m1:=m4;clear m3 m4)
     | (go_at_call 189;refine (CW.o _ _ (by assumption) (by assumption)).mono ?_;rintro e w9 ⟨⟨bv,rfl,hbv⟩,m3,m4⟩;clear m0 m1;have m0:=m3;have m1:=m4;clear m3 m4)))
   have HB3:=bT HB7 m0;have HO3:=h_ (HO7.later m0 l_);have HRd3:=h_ (hbv.rd (by have:=HF3.o;omega));have HSz:=h_ HB7.size;clear m0 m1 hbv hcv CO CW HO7 HB7 hm1 HW7 HW9 e0 e1 hidx;go_wp2_with (with_reducible refine wpl_append w.heap.size _ _ ?hsO HO3.o _ _ ?hxO HRd3.o ?hnO HB3.o.size w.heap.size w HB3.o l_ ?_)
   case hsO=>rfl
   case hxO=>rfl
   case hnO=>have:=HL.o;have:=HF3.o;omega
   intro v5 w5 hO5 hB5 hg5;have HB5:=h_ hB5;have HO5:=h_ (show Own w5 w.heap.size v5 (encU n ++ zaQ ((kindsL cs).take (k + 1)) 0 (zbC ps)) from by rw [HKT.o,zfM,HKL.o,Nat.zero_add,<- List.append_assoc];exact hO5)
   have HL5:=h_ (show (encU n ++ zaQ ((kindsL cs).take (k + 1)) 0 (zbC ps)).length<=10 + (k + 1) * 272384 from by
    have h1:=HL.o
    have h2:=HF3.o
    rw [HKT.o,zfM,HKL.o,Nat.zero_add,<- List.append_assoc,List.length_append]
    omega)
   clear hO5 hB5 hg5 HB3 HO3 HRd3;go_wp2;go_roundw
   case rel=>exact ⟨k + 1,by omega,by go_num,HB5,HO5,HL5⟩
   simp [intOf];omega
  obtain rfl:k=K:=by omega
  have d1:decide ((k:Int) < (k:Int))=false:=decide_eq_false (by omega);have htk:(kindsL cs).take k=kindsL cs:=List.take_of_length_le (by unfold kindsL;rw [List.length_map,<- HK.o];exact l_);have HO2:=h_ (show Own wr w.heap.size u7 ((encU n ++ zaQ (kindsL cs) 0 (zbC ps)) ++ btWs ((ps.map fun p=>p.2).take 0)) from by rw [List.take_zero,btWs,List.append_nil];have:=HO.o;rw [htk] at this;exact this);have HL2:=h_ (show (encU n ++ zaQ (kindsL cs) 0 (zbC ps)).length<=2500000 from by have:=HL.o;rw [htk] at this;omega);clear htk HO HL hlt;go_wp2;go_loopw [7,46] (fun b i wr=>∃ j:Nat,j<=n/\i=.int .i64 j/\Hid (Below w.heap.size w wr)/\Hid (Own wr w.heap.size b ((encU n ++ zaQ (kindsL cs) 0 (zbC ps)) ++ btWs ((ps.map fun p=>p.2).take j)))/\Hid ((btWs ((ps.map fun p=>p.2).take j)).length<=10 * j)) (fun _ i _=>n - (intOf i).toNat)
  case atStart=>exact ⟨0,by omega,rfl,HB,HO2,h_ (by rw [List.take_zero];simp [btWs])⟩
  clear HB HO2;obtain ⟨j,hj,rfl,HB,HO,HL⟩:=hrel;by_cases hjn:j < n
  ·have hjp:j < ps.length:=(by rw [<- HN.o];exact hjn);have d2:decide ((j:Int) < (n:Int))=true:=decide_eq_true (by omega);have hr:=HP.later HB.o l_;obtain ⟨b,o,rv,hidx,hc0,hc1,hre,_⟩:=hr.get hjp;obtain ⟨ao,nn,cap,rfl⟩:=hre.lit;have hin:=(HPS.get hjp).2;have hsn:(ps.map fun p=>p.2).take (j + 1)=(ps.map fun p=>p.2).take j ++ [(ps.getD j default).2]:=by
    rw [zaE (by rw [List.length_map];exact hjp) 0];simp [List.getD,hjp]
   obtain ⟨x,hx⟩:=nm_ ((ps.getD j default).2);rw [<- hx] at hc1 hin hsn;have HSn:=h_ hsn;have HIn:=h_ hin;have hle:=zaC (zig x) (ziQ x hin.1 hin.2);obtain ⟨W7,hW7⟩:=nm_ (wr.alloc (.cells #[.slice ao nn cap,.int .i64 x] 86));have hb7:Below wr.heap.size wr W7:=(by rw [hW7];exact (Below.refl _ _).alloc l_ _);have HB7:=bT HB hb7;have HO7:=h_ (HO.later hb7 l_);have HW7:=h_ hW7;clear hx hsn hr hre hin hb7 HB HO hW7;go_wp2_with fail;rw [<- HW7.o];refine (zsI x HIn.1 HIn.2 W7).mono ?_;rintro e w3 ⟨yv,rfl,hOy,hb⟩;have HB3:=bT HB7 hb;have HO3:=h_ (HO7.later hb l_);have HRd3:=h_ (hOy.rd (by omega));clear hb hOy HB7 HO7 hc0 hc1 hidx HW7;go_wp2_with (with_reducible refine wpl_append w.heap.size _ _ ?hsW HO3.o _ _ ?hxW HRd3.o ?hnW HB3.o.size w.heap.size w HB3.o l_ ?_)
   case hsW=>rfl
   case hxW=>rfl
   case hnW=>rw [List.length_append];have:=HL.o;have:=HL2.o;omega
   intro v5 w5 hO5 hB5 hg5;have HB5:=h_ hB5;have HO5:=h_ (show Own w5 w.heap.size v5 ((encU n ++ zaQ (kindsL cs) 0 (zbC ps)) ++ btWs ((ps.map fun p=>p.2).take (j + 1))) from by rw [HSn.o,zkM,<- List.append_assoc];exact hO5);have HL5:=h_ (show (btWs ((ps.map fun p=>p.2).take (j + 1))).length<=10 * (j + 1) from by rw [HSn.o,zkM,List.length_append];have:=HL.o;omega);clear hO5 hB5 hg5 HB3 HO3 HRd3;go_wp2;go_roundw
   case rel=>exact ⟨j + 1,by omega,by go_num,HB5,HO5,HL5⟩
   simp [intOf];omega
  obtain rfl:j=n:=by omega
  have d2:decide ((j:Int) < (j:Int))=false:=decide_eq_false (by omega);have htk:(ps.map fun p=>p.2).take j=ps.map fun p=>p.2:=List.take_of_length_le (by rw [List.length_map,<- HN.o];exact l_)
  have HOe:=h_ (show Own wr w.heap.size u7 (btWr (kindsL cs) (psL ps)) from by
   have:=HO.o
   rw [htk] at this
   unfold btWr
   rw [zeK,zeJ,zDN,<- HN.o,<- List.append_assoc]
   exact this)
  clear htk HO HL hjn;go_wp2;go_ret2;exact ⟨_,rfl,HOe.o,HB.o⟩
 rw [if_neg h0];have hq:((ck:Int) != 0)=true:=by rw [bne_iff_ne];omega
 clear hR hP hC hPS hOk h0 hT;go_enter func134,ntmps134;go_wp2_with fail;refine HCk.mono ?_;rintro e w1 ⟨rfl,hb⟩;have HB1:=h_ hb;clear hb HCk;go_wp2;go_ret2;exact ⟨_,rfl,zaT _ _,HB1.o⟩
/- -/
theorem zk1 (sv ev:Value) (cs:List ColB) (x:EntB) (w:World) (hR:RdC w sv cs) (hE:RdN w ev x) (hC:CS cs) (hX:EnO x) (hT:Tabs w) (hF:Frs w) :
  Calls prog 101 #[sv,ev] w (RetW w (entW cs x)):=by
 obtain ⟨kind,seq,ps⟩:=x;obtain ⟨pv,rfl,hP⟩:=hE;dsimp only at hP;obtain ⟨ao,no,co,rfl⟩:=hP.lit12;have EC:=h_ (fun wz (hz:Below w.heap.size w wz)=>zk2 sv _ cs (kind,seq,ps) wz (hR.later hz l_) ⟨_,rfl,hP.later hz l_⟩ hC hX (hT.later hz));have hW:entW cs (kind,seq,ps)=if entE cs (kind,seq,ps)≠0 then ([],entE cs (kind,seq,ps)) else wrF (2 - kind) (entP cs (kind,seq,ps)):=rfl
 have hz:=zb9 (cs:=cs) (x:=(kind,seq,ps));obtain ⟨N1,N2⟩:=za7 w (.cells #[.int .i64 kind,.int .i64 seq,.slice ao no co] 92);obtain ⟨w0,hw0⟩:=nm_ (w.alloc (.cells #[.int .i64 kind,.int .i64 seq,.slice ao no co] 92));rw [<- hw0] at N1 N2;obtain ⟨g,hg⟩:=nm_ w.heap.size;rw [<- hg] at N1;have HE0:=h_ (show Ebox w0 g kind seq (.slice ao no co) from N1);have HB0:=h_ N2;have HW0:=h_ hw0;have HG:=h_ hg;obtain ⟨E,hE⟩:=nm_ (entE cs (kind,seq,ps));rw [<- hE] at EC hW hz;by_cases h0:E=0
 ·subst h0;rw [if_neg (by simp)] at hW;obtain ⟨_,hk,hs,hck⟩:=hz.1 rfl;dsimp only at hk hs hck;have hws:=zA3 hX.2.2 hck;have hwp:=zET cs ps;dsimp only at hws;have BW:=h_ (fun wz (hz:Below w.heap.size w wz)=>zsB sv (.slice ao no co) cs ps wz (hR.later hz l_) (hP.later hz l_) hC hX.2.2 (hT.later hz));rw [hck,if_pos rfl] at BW;obtain ⟨n,rfl⟩:=Int.eq_ofNat_of_zero_le hs.1;have hn:n<=281474976710656:=by omega
  have hle:=zaC n (by omega);have hW:entW cs (kind,(n:Int),ps)=wrF (2 - kind) (encU n ++ btWr (kindsL cs) (psL ps)):=hW;obtain ⟨L,hL⟩:=nm_ (btWr (kindsL cs) (psL ps));rw [<- hL] at hws BW hW hwp;have HLp:=h_ hwp;have HW:=h_ hW;rw [hW];have HLs:=h_ (And.intro hle hws);have HF:=h_ hF;clear hR hP hC hX hT hF hz hck hW hL hE hws hwp hle hs N1 N2 hw0 hg;rcases hk with rfl | rfl
  ·go_enter func101,ntmps101;go_wp2_with fail;rw [<- HW0.o,<- HG.o];refine (EC.o w0 HB0.o).mono ?_;rintro e w1 ⟨rfl,hb⟩;have HB1:=bT HB0 hb;have HE1:=h_ (HE0.later hb);obtain ⟨c0,c1,c2⟩:=HE1.cells;clear hb HE0;go_wp2_with fail;refine (BW.o w1 HB1.o).mono ?_;rintro e w2 ⟨bv,rfl,hO,hb⟩;have HB2:=bT HB1 hb;have hE2:=HE1.later hb;have hR2:=hO.rd (by have:=HLs.2;omega);have HR2:=h_ (fun wz (hz:Below w2.heap.size w2 wz)=>hR2.later hz l_);clear c0 c1 c2;have hF2:=HF.later HB2.o;have q0:=fun wz (hz:Below w2.heap.size w2 wz)=>(hE2.later hz).cells;have qf:=fun wz (hz:Below w2.heap.size w2 wz)=>hF2.later hz;have Q:=h_ (fun wz (hz:Below w2.heap.size w2 wz)=>And.intro hz (And.intro (q0 wz hz).1 (And.intro (q0 wz hz).2.1 (qf wz hz).1)))
   have WU:=h_ (fun wz (hz:Below w2.heap.size w2 wz)=>(zcL (n:Int) (by omega) (by omega) wz).mono (fun e w' (h:RetB wz (encU (n:Int).toNat) e w')=>show (∃ uv,e=.returned uv/\Own w' w2.heap.size uv (encU n))/\Below w2.heap.size w2 w' from by
    obtain ⟨uv,he,hO,hb⟩:=h
    rw [Int.toNat_natCast] at hO
    exact ⟨⟨uv,he,hO.base hz.size⟩,hz.trans (hb.mono hz.size)⟩))
   have FW:=h_ (fun k wz v (hz:Below w2.heap.size w2 wz) (ho:Own wz w2.heap.size v (encU n ++ L))=>(zfF k v (encU n ++ L) wz (ho.rd (by have:=HLs.o;rw [List.length_append];omega))).mono (fun e w' h=>show (∃ fv,e=.returned (.tuple #[fv,.int .i64 ((wrF k (encU n ++ L)).2:Nat)])/\Own w' w2.heap.size fv (wrF k (encU n ++ L)).1)/\Below w2.heap.size w2 w' from by
    obtain ⟨fv,he,hO,hb⟩:=h
    exact ⟨⟨fv,he,hO.base hz.size⟩,hz.trans (hb.mono hz.size)⟩))
   have hcv:IntKind.u64.wrap (n:Int)=(n:Int):=by
    have:IntKind.u64.wrap (n:Int)=(n:Int) % 18446744073709551616:=(by simp [IntKind.wrap,IntKind.signed,IntKind.bits]);omega
   have m0:Below w2.heap.size w2 w2.drew:=(Below.refl _ _).drew;clear hb hO hR2 hE2 hF2 q0 qf HE1 BW EC;go_wp2;go_region_held3 (fun z=>Below w2.heap.size w2 z/\z.cell? ⟨g,0,none⟩=some (.int .i64 0)/\z.cell? ⟨g,1,none⟩=some (.int .i64 (n:Int))/\z.cell? ⟨0,0,none⟩=some (.int .i64 2)) (first | (exact Q.o _ m0) | go_keep)
    ((first
     | (go_at_call 135;refine (WU.o _ (by assumption)).mono ?_;rintro e w6 ⟨⟨uv,rfl,hOu⟩,m3⟩;clear m0;have m0:=m3;clear m3)
     | (go_at_call 108;refine (FW.o _ _ _ (by assumption) (by assumption)).mono ?_;rintro e w8 ⟨⟨fv,rfl,hOf⟩,m3⟩;clear m0;have m0:=m3;clear m3)
     | (refine zhG w2.heap.size uv (encU n) bv L (by rfl) (by rfl) (by assumption) (by rfl) (HR2.o _ m0) HLp.o (by have:=HLs.o;omega) m0.size w2.heap.size w2 m0 l_ ?_;intro va wa hOa m3 hga;clear m0 hga hOu;have m0:=m3;clear m3)))
   have HB3:=bT HB2 m0;have HO3:=h_ (hOf.base (base':=w.heap.size) HB2.size);clear m0 hOf WU FW Q HR2;go_wp2;go_ret2;exact ⟨_,rfl,HO3.o,HB3.o⟩
  go_enter func101,ntmps101;go_wp2_with fail;rw [<- HW0.o,<- HG.o];refine (EC.o w0 HB0.o).mono ?_;rintro e w1 ⟨rfl,hb⟩;have HB1:=bT HB0 hb;have HE1:=h_ (HE0.later hb);obtain ⟨c0,c1,c2⟩:=HE1.cells;clear hb HE0;go_wp2_with fail;refine (BW.o w1 HB1.o).mono ?_;rintro e w2 ⟨bv,rfl,hO,hb⟩;have HB2:=bT HB1 hb;have hE2:=HE1.later hb;have hR2:=hO.rd (by have:=HLs.2;omega);have HR2:=h_ (fun wz (hz:Below w2.heap.size w2 wz)=>hR2.later hz l_);clear c0 c1 c2;have hF2:=HF.later HB2.o;have q0:=fun wz (hz:Below w2.heap.size w2 wz)=>(hE2.later hz).cells;have qf:=fun wz (hz:Below w2.heap.size w2 wz)=>hF2.later hz;have Q:=h_ (fun wz (hz:Below w2.heap.size w2 wz)=>And.intro hz (And.intro (q0 wz hz).1 (And.intro (q0 wz hz).2.1 (qf wz hz).2)))
  have WU:=h_ (fun wz (hz:Below w2.heap.size w2 wz)=>(zcL (n:Int) (by omega) (by omega) wz).mono (fun e w' (h:RetB wz (encU (n:Int).toNat) e w')=>show (∃ uv,e=.returned uv/\Own w' w2.heap.size uv (encU n))/\Below w2.heap.size w2 w' from by
   obtain ⟨uv,he,hO,hb⟩:=h
   rw [Int.toNat_natCast] at hO
   exact ⟨⟨uv,he,hO.base hz.size⟩,hz.trans (hb.mono hz.size)⟩))
  have FW:=h_ (fun k wz v (hz:Below w2.heap.size w2 wz) (ho:Own wz w2.heap.size v (encU n ++ L))=>(zfF k v (encU n ++ L) wz (ho.rd (by have:=HLs.o;rw [List.length_append];omega))).mono (fun e w' h=>show (∃ fv,e=.returned (.tuple #[fv,.int .i64 ((wrF k (encU n ++ L)).2:Nat)])/\Own w' w2.heap.size fv (wrF k (encU n ++ L)).1)/\Below w2.heap.size w2 w' from by
   obtain ⟨fv,he,hO,hb⟩:=h
   exact ⟨⟨fv,he,hO.base hz.size⟩,hz.trans (hb.mono hz.size)⟩))
  have hcv:IntKind.u64.wrap (n:Int)=(n:Int):=by
   have:IntKind.u64.wrap (n:Int)=(n:Int) % 18446744073709551616:=(by simp [IntKind.wrap,IntKind.signed,IntKind.bits]);omega
  have m0:Below w2.heap.size w2 w2.drew:=(Below.refl _ _).drew;clear hb hO hR2 hE2 hF2 q0 qf HE1 BW EC;go_wp2;go_region_held3 (fun z=>Below w2.heap.size w2 z/\z.cell? ⟨g,0,none⟩=some (.int .i64 1)/\z.cell? ⟨g,1,none⟩=some (.int .i64 (n:Int))/\z.cell? ⟨0,1,none⟩=some (.int .i64 1)) (first | (exact Q.o _ m0) | go_keep)
   ((first
    | (go_at_call 135;refine (WU.o _ (by assumption)).mono ?_;rintro e w6 ⟨⟨uv,rfl,hOu⟩,m3⟩;clear m0;have m0:=m3;clear m3)
    | (go_at_call 108;refine (FW.o _ _ _ (by assumption) (by assumption)).mono ?_;rintro e w8 ⟨⟨fv,rfl,hOf⟩,m3⟩;clear m0;have m0:=m3;clear m3)
    | (refine zhG w2.heap.size uv (encU n) bv L (by rfl) (by rfl) (by assumption) (by rfl) (HR2.o _ m0) HLp.o (by have:=HLs.o;omega) m0.size w2.heap.size w2 m0 l_ ?_;intro va wa hOa m3 hga;clear m0 hga hOu;have m0:=m3;clear m3)))
  have HB3:=bT HB2 m0;have HO3:=h_ (hOf.base (base':=w.heap.size) HB2.size);clear m0 hOf WU FW Q HR2;go_wp2;go_ret2;exact ⟨_,rfl,HO3.o,HB3.o⟩
 rw [if_pos h0] at hW;have q:((E:Int) != 0)=true:=by rw [bne_iff_ne];omega
 have HW:=h_ hW;clear hR hP hC hX hT hF hz h0 hW hE N1 N2 hw0 hg;go_enter func101,ntmps101;go_wp2_with fail;rw [<- HW0.o,<- HG.o];refine (EC.o w0 HB0.o).mono ?_;rintro e w1 ⟨rfl,hb⟩;have HB1:=bT HB0 hb;clear hb HE0;go_wp2;go_ret2;rw [HW.o];exact ⟨_,rfl,zaT _ _,HB1.o⟩
